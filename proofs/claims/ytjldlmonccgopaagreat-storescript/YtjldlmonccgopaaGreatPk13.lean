/- RcSame, RcHeavy, OLong, RcTotal. -/
import Derived.Test.YtjldlmonccgopaaGreatZRcBase
import Derived.BigQuiet
import Derived.Deep.QuietTactic
/- The laws' helpers 'same' and 'heavy'. -/
namespace Go.Proofs.YtjldlmonccgopaaGreat.Rc
open Go.RowKit
set_option linter.unusedVariables false
set_option maxRecDepth 100000
set_option linter.unusedSimpArgs false

theorem IsRecs.slice {w : World} {v : Value} {L : List Rec} (h : IsRecs w v L) : ∃ a c, v = .slice a L.length c ∧ L.length ≤ 9223372036854775807 := by
  obtain ⟨a, c, h1, h2, h3, _⟩ := h
  unfold maxLen at h3
  exact ⟨a, c, h1, by omega⟩
theorem IsInts.at {w : World} {v : Value} {L : List Int} (h : IsInts w v L) (i : Nat) (hi : i < L.length) : ∃ b off c, v = .slice (some ⟨b, off, none⟩) L.length c ∧ w.cell? ⟨b, off + i, none⟩ = some (.int .i64 L[i]) := by
  obtain ⟨h0, a, c, h1, h2, h3, h4⟩ := h
  rcases h4 with h4 | ⟨b, off, h4, h5⟩
  · rw [h4] at hi; simp at hi
  · exact ⟨b, off, c, by rw [h1, h4], h5 i hi⟩
theorem IsInts.slice {w : World} {v : Value} {L : List Int} (h : IsInts w v L) : ∃ a c, v = .slice a L.length c ∧ L.length ≤ 9223372036854775807 := by
  obtain ⟨h0, a, c, h1, h2, h3, h4⟩ := h
  unfold maxLen at h3
  exact ⟨a, c, h1, by omega⟩
set_option maxHeartbeats 8000000 in
theorem same_true (w : World) (va vb : Value) (L : List Rec) (ha : IsRecs w va L) (hb : IsRecs w vb L) :
    Calls Tryz.prog 23 #[va, vb] w fun e w' => e = .returned (.bool true) ∧ Below w.heap.size w w' := by
  obtain ⟨a1, c1, ea, hl⟩ := ha.slice
  obtain ⟨a2, c2, eb, _⟩ := hb.slice
  subst ea eb
  go_enter Tryz.func23, Tryz.ntmps23
  go_wp2
  go_loopw [5] (fun i wr => ∃ k : Nat, k ≤ L.length ∧ i = .int .i64 k ∧ Below w.heap.size w wr) (fun i _ => L.length - (intOf i).toNat)
  case atStart => exact ⟨0, Nat.zero_le _, rfl, Below.refl _ _⟩
  case round =>
    obtain ⟨k, hk, rfl, hbel⟩ := hrel
    by_cases hlt : k < L.length
    · obtain ⟨b1, o1, d1, u1, e1, l1, m1, f1, r1⟩ := (ha.below hbel).at k hlt
      obtain ⟨b2, o2, d2, u2, e2, l2, m2, f2, r2⟩ := (hb.below hbel).at k hlt
      simp only [Value.slice.injEq] at e1 e2
      obtain ⟨rfl, _, rfl⟩ := e1
      obtain ⟨rfl, _, rfl⟩ := e2
      unfold maxLen at m1 m2
      obtain ⟨q1, x1, eq1, hN⟩ := r1.ints.slice
      obtain ⟨q2, x2, eq2, _⟩ := r2.ints.slice
      subst eq1 eq2
      have HI1 := hid r1.ints
      have HI2 := hid r2.ints
      have HR1 := hid r1
      have HR2 := hid r2
      obtain ⟨k1, w1, n1, t1, _⟩ := r1
      obtain ⟨k2, w2, n2, t2, _⟩ := r2
      obtain ⟨fk, fw, ft⟩ := f1
      unfold maxLen at fw ft
      clear f2
      have HA := hid ha
      have HB := hid hb
      clear ha hb
      generalize L[k] = r at *
      go_wp2_with fail
      go_quiet (fail)
      have hW : Below wr.heap.size wr (wr.drewN nq) := below_dn (Below.refl _ _) nq
      have hbW := chain2 hbel hW
      have HS1 := hid (HR1.out.below hW)
      have HS2 := hid (HR2.out.below hW)
      clear k1 w1 n1 t1 k2 w2 n2 t2 HR1 HR2 hbel HI1 HI2
      generalize wr.drewN nq = W at *
      clear hW
      go_wp2
      go_loopw [6] (fun i wr => ∃ m : Nat, m ≤ r.nums.length ∧ i = .int .i64 m ∧ Below W.heap.size W wr) (fun i _ => r.nums.length - (intOf i).toNat)
      case atStart => exact ⟨0, Nat.zero_le _, rfl, Below.refl _ _⟩
      case round =>
        obtain ⟨m, hm, rfl, hb2⟩ := hrel
        have r1 := HS1.out.below hb2
        have r2 := HS2.out.below hb2
        have hbw := chain2 hbW hb2
        have n1 := r1.nums
        have n2 := r2.nums
        by_cases hlm : m < r.nums.length
        · obtain ⟨g1, p1, y1, e1, z1⟩ := r1.ints.at m hlm
          obtain ⟨g2, p2, y2, e2, z2⟩ := r2.ints.at m hlm
          simp only [Value.slice.injEq] at e1 e2
          obtain ⟨rfl, _, rfl⟩ := e1
          obtain ⟨rfl, _, rfl⟩ := e2
          have hc1 : r.nums.length ≤ 9223372036854775807 := hN
          clear r1 r2
          generalize r.nums[m] = x at *
          go_wp2_with fail
          go_quiet (fail)
          have hW2 : Below W.heap.size W (wr.drewN nq) := below_dn hb2 nq
          clear n1 n2 z1 z2 hb2
          generalize wr.drewN nq = W2 at *
          go_wp2
          go_roundw
          case rel => exact ⟨m + 1, by omega, by go_num, hW2⟩
          case measure => simp [intOf]; omega
        · clear r1 r2
          go_wp2
          go_roundw
          case rel => exact ⟨k + 1, by omega, by go_num, hbw⟩
          case measure => simp [intOf]; omega
    · go_wp2
      go_ret
      exact ⟨rfl, hbel⟩
end Go.Proofs.YtjldlmonccgopaaGreat.Rc
/- The laws' helper 'heavy'. -/
namespace Go.Proofs.YtjldlmonccgopaaGreat.Rc
open Go.RowKit
set_option linter.unusedVariables false
set_option maxRecDepth 100000
set_option linter.unusedSimpArgs false

def rsum (r : Rec) : Nat := min r.who.size 1048576 + min r.text.size 1048576 + min r.nums.length 1048576
def hsum (L : List Rec) (n : Nat) : Nat → Nat
  | 0 => n
  | k + 1 => hsum L n k + (L[k]?.map rsum).getD 0
theorem hsum_ge (L : List Rec) (n : Nat) : ∀ k, n ≤ hsum L n k
  | 0 => Nat.le_refl _
  | k + 1 => by have := hsum_ge L n k; simp only [hsum]; omega
theorem hsum_mono (L : List Rec) (n : Nat) (k : Nat) : ∀ j, hsum L n k ≤ hsum L n (k + j)
  | 0 => Nat.le_refl _
  | j + 1 => by have := hsum_mono L n k j; rw [← Nat.add_assoc]; simp only [hsum]; omega
/-- What is not too much. -/
theorem hsum_few {L : List Rec} (h : hsum L L.length L.length ≤ 131072) : L.length ≤ 131072 ∧ ∀ r ∈ L, r.nums.length ≤ 131072 := by
  refine ⟨Nat.le_trans (hsum_ge L L.length L.length) h, fun r hr => ?_⟩
  obtain ⟨i, hi, rfl⟩ := List.getElem_of_mem hr
  have h1 := hsum_mono L L.length (i + 1) (L.length - (i + 1))
  rw [show i + 1 + (L.length - (i + 1)) = L.length by omega] at h1
  have h2 : hsum L L.length (i + 1) = hsum L L.length i + rsum L[i] := by rw [hsum, List.getElem?_eq_getElem hi]; rfl
  have h3 : min L[i].nums.length 1048576 ≤ rsum L[i] := by unfold rsum; omega
  omega
end Go.Proofs.YtjldlmonccgopaaGreat.Rc
/- The laws' helper 'long'. -/
namespace Go.Proofs.YtjldlmonccgopaaGreat.Rc
open Go.RowKit
set_option linter.unusedVariables false
set_option maxRecDepth 100000
set_option linter.unusedSimpArgs false

set_option maxHeartbeats 4000000 in
/-- What it counts: no less than there are, and no number beyond bounds. -/
theorem long_any (w : World) (v : Value) (L : List Rec) (h : IsRecs w v L) :
    Calls Tryz.prog 28 #[v] w fun e w' => (∃ n : Nat, e = .returned (.int .i64 (n : Int)) ∧ n ≤ 8000000 ∧ (n < 1048576 → L.length ≤ n)) ∧ Below w.heap.size w w' := by
  obtain ⟨a, c, rfl, hlen⟩ := h.slice
  obtain ⟨M, hM, hM2⟩ : ∃ M : Nat, M = min L.length 1048576 ∧ (if (1048576 : Int) < (L.length : Int) then (1048576 : Int) else (L.length : Int)) = (M : Int) := ⟨_, rfl, by split <;> omega⟩
  have hM3 : M ≤ 1048576 := by omega
  have HM := hid hM
  clear hM
  go_enter Tryz.func28, Tryz.ntmps28
  go_wp2
  go_loopw [3, 4] (fun m i wr => ∃ k x : Nat, k ≤ L.length ∧ i = .int .i64 (k : Int) ∧ m = .int .i64 (x : Int) ∧ M ≤ x ∧ x ≤ 8000000 ∧ Below w.heap.size w wr) (fun _ i _ => L.length - (intOf i).toNat)
  case atStart => exact ⟨0, M, Nat.zero_le _, rfl, rfl, Nat.le_refl _, by omega, Below.refl _ _⟩
  case round =>
    obtain ⟨k, x, hk, rfl, rfl, hx1, hx2, hbel⟩ := hrel
    by_cases hlt : k < L.length
    · by_cases hm : x ≤ 131072
      · obtain ⟨b1, o1, d1, u1, e1, l1, m1, f1, r1⟩ := (h.below hbel).at k hlt
        simp only [Value.slice.injEq] at e1
        obtain ⟨rfl, _, rfl⟩ := e1
        unfold maxLen at m1
        obtain ⟨q1, x1, eq1, hN⟩ := r1.ints.slice
        subst eq1
        obtain ⟨k1, w1, n1, t1, _⟩ := r1
        obtain ⟨fk, fw, ft⟩ := f1
        unfold maxLen at fw ft
        generalize L[k] = r at *
        obtain ⟨A, hA, hA2⟩ : ∃ A : Nat, A = min r.who.size 1048576 ∧ (if (1048576 : Int) < (r.who.size : Int) then (1048576 : Int) else (r.who.size : Int)) = (A : Int) := ⟨_, rfl, by split <;> omega⟩
        obtain ⟨B, hB, hB2⟩ : ∃ A : Nat, A = min r.text.size 1048576 ∧ (if (1048576 : Int) < (r.text.size : Int) then (1048576 : Int) else (r.text.size : Int)) = (A : Int) := ⟨_, rfl, by split <;> omega⟩
        obtain ⟨C, hC, hC2⟩ : ∃ A : Nat, A = min r.nums.length 1048576 ∧ (if (1048576 : Int) < (r.nums.length : Int) then (1048576 : Int) else (r.nums.length : Int)) = (A : Int) := ⟨_, rfl, by split <;> omega⟩
        have lA : A ≤ 1048576 := by omega
        have lB : B ≤ 1048576 := by omega
        have lC : C ≤ 1048576 := by omega
        clear hA hB hC
        go_wp2_with fail
        go_quiet (fail)
        have hb2 := below_dn hbel nq
        generalize wr.drewN nq = W at *
        clear k1 w1 n1 t1
        go_wp2
        go_roundw
        case rel => exact ⟨k + 1, x + (A + B + C), by omega, by go_num, by go_num, by omega, by omega, hb2⟩
        case measure => simp [intOf]; omega
      · have hm' : ¬ (x : Int) ≤ 131072 := by omega
        go_wp2
        go_ret
        exact ⟨⟨x, rfl, hx2, fun hx => by have := HM.out; omega⟩, hbel⟩
    · go_wp2
      go_ret
      exact ⟨⟨x, rfl, hx2, fun hx => by have := HM.out; omega⟩, hbel⟩
end Go.Proofs.YtjldlmonccgopaaGreat.Rc
/- The laws' helper 'same', whatever it is asked. -/
namespace Go.Proofs.YtjldlmonccgopaaGreat.Rc
open Go.RowKit
set_option linter.unusedVariables false
set_option maxRecDepth 100000
set_option linter.unusedSimpArgs false

theorem tl_eq {x y : ByteArray} (h : x.toList = y.toList) : x = y := by
  rw [ByteArray.toList_eq, ByteArray.toList_eq] at h
  exact ByteArray.ext (Array.toList_inj.mp h)
theorem ba_ne {x y : ByteArray} (h : x ≠ y) : (x.toList == y.toList) = false ∧ (x.toList != y.toList) = true := by
  have h1 : x.toList ≠ y.toList := fun e => h (tl_eq e)
  exact ⟨beq_eq_false_iff_ne.2 h1, bne_iff_ne.2 h1⟩
set_option maxHeartbeats 16000000 in
theorem same_total (w : World) (va vb : Value) (L M : List Rec) (ha : IsRecs w va L) (hb : IsRecs w vb M) :
    Calls Tryz.prog 23 #[va, vb] w fun e w' => (∃ b, e = .returned (.bool b)) ∧ Below w.heap.size w w' := by
  obtain ⟨a1, c1, ea, hl⟩ := ha.slice
  obtain ⟨a2, c2, eb, hl2⟩ := hb.slice
  subst ea eb
  by_cases hLM : L.length = M.length
  · have HLM := hid hLM
    rw [← hLM]
    clear hLM hl2
    go_enter Tryz.func23, Tryz.ntmps23
    go_wp2
    go_loopw [5] (fun i wr => ∃ k : Nat, k ≤ L.length ∧ i = .int .i64 k ∧ Below w.heap.size w wr) (fun i _ => L.length - (intOf i).toNat)
    case atStart => exact ⟨0, Nat.zero_le _, rfl, Below.refl _ _⟩
    case round =>
      obtain ⟨k, hk, rfl, hbel⟩ := hrel
      by_cases hlt : k < L.length
      · obtain ⟨b1, o1, d1, u1, e1, l1, m1, f1, r1⟩ := (ha.below hbel).at k hlt
        obtain ⟨b2, o2, d2, u2, e2, l2, m2, f2, r2⟩ := (hb.below hbel).at k (by have := HLM.out; omega)
        simp only [Value.slice.injEq] at e1 e2
        obtain ⟨rfl, _, rfl⟩ := e1
        obtain ⟨rfl, _, rfl⟩ := e2
        rw [← HLM.out] at l2
        unfold maxLen at m1 m2
        obtain ⟨q1, x1, eq1, hN⟩ := r1.ints.slice
        obtain ⟨q2, x2, eq2, hN2⟩ := r2.ints.slice
        subst eq1 eq2
        have HR1 := hid r1
        have HR2 := hid r2
        obtain ⟨k1, w1, n1, t1, _⟩ := r1
        obtain ⟨k2, w2, n2, t2, _⟩ := r2
        obtain ⟨fk, fw, ft⟩ := f1
        obtain ⟨gk, gw, gt⟩ := f2
        unfold maxLen at fw ft gw gt
        have HA := hid ha
        have HB := hid hb
        clear ha hb
        generalize L[k] = r at *
        generalize M[k]'(by have := HLM.out; omega) = q at *
        by_cases hkd : r.kind = q.kind
        · have hkd1 : (r.kind != q.kind) = false := by simp [hkd]
          by_cases hwh : r.who = q.who
          · by_cases htx : r.text = q.text
            · by_cases hnl : r.nums.length = q.nums.length
              · rw [← hkd] at k2
                rw [← hwh] at w2
                rw [← htx] at t2
                rw [← hnl] at n2
                clear hkd1
                have HNL := hid hnl
                clear hkd hwh htx hnl gk gw gt hN2
                go_wp2_with fail
                go_quiet (fail)
                have hW : Below wr.heap.size wr (wr.drewN nq) := below_dn (Below.refl _ _) nq
                have hbW := chain2 hbel hW
                have HS1 := hid (HR1.out.below hW)
                have HS2 := hid (HR2.out.below hW)
                clear k1 w1 n1 t1 k2 w2 n2 t2 HR1 HR2 hbel
                generalize wr.drewN nq = W at *
                clear hW
                go_wp2
                go_loopw [6] (fun i wr => ∃ m : Nat, m ≤ r.nums.length ∧ i = .int .i64 m ∧ Below W.heap.size W wr) (fun i _ => r.nums.length - (intOf i).toNat)
                case atStart => exact ⟨0, Nat.zero_le _, rfl, Below.refl _ _⟩
                case round =>
                  obtain ⟨m, hm, rfl, hb2⟩ := hrel
                  have r1 := HS1.out.below hb2
                  have r2 := HS2.out.below hb2
                  have hbw := chain2 hbW hb2
                  have n1 := r1.nums
                  have n2 := r2.nums
                  by_cases hlm : m < r.nums.length
                  · obtain ⟨g1, p1, y1, e1, z1⟩ := r1.ints.at m hlm
                    obtain ⟨g2, p2, y2, e2, z2⟩ := r2.ints.at m (by have := HNL.out; omega)
                    simp only [Value.slice.injEq] at e1 e2
                    obtain ⟨rfl, _, rfl⟩ := e1
                    obtain ⟨rfl, _, rfl⟩ := e2
                    rw [← HNL.out] at n2
                    have hc1 : r.nums.length ≤ 9223372036854775807 := hN
                    clear r1 r2
                    generalize r.nums[m] = x at *
                    generalize q.nums[m]'(by have := HNL.out; omega) = y at *
                    by_cases hxy : x = y
                    · subst hxy
                      go_wp2_with fail
                      go_quiet (fail)
                      have hW2 : Below W.heap.size W (wr.drewN nq) := below_dn hb2 nq
                      clear n1 n2 z1 z2 hb2
                      generalize wr.drewN nq = W2 at *
                      go_wp2
                      go_roundw
                      case rel => exact ⟨m + 1, by omega, by go_num, hW2⟩
                      case measure => simp [intOf]; omega
                    · have hxy1 : (x != y) = true := by simp [hxy]
                      have hxy2 : (x == y) = false := by simp [hxy]
                      go_wp2_with fail
                      go_quiet (fail)
                      have hW2 : Below W.heap.size W (wr.drewN nq) := below_dn hb2 nq
                      generalize wr.drewN nq = W2 at *
                      go_wp2
                      go_ret
                      exact ⟨⟨_, rfl⟩, chain2 hbW hW2⟩
                  · clear r1 r2
                    go_wp2
                    go_roundw
                    case rel => exact ⟨k + 1, by omega, by go_num, hbw⟩
                    case measure => simp [intOf]; omega
              · have h1 : ((r.nums.length : Int) != (q.nums.length : Int)) = true := by simp; omega
                have h2 : ((r.nums.length : Int) == (q.nums.length : Int)) = false := by simp; omega
                rw [← hkd] at k2
                rw [← hwh] at w2
                rw [← htx] at t2
                clear hkd1
                go_wp2_with fail
                go_quiet (fail)
                have hW := below_dn hbel nq
                generalize wr.drewN nq = W at *
                go_wp2
                go_ret
                exact ⟨⟨_, rfl⟩, hW⟩
            · obtain ⟨h1, h2⟩ := ba_ne htx
              rw [← hkd] at k2
              rw [← hwh] at w2
              clear hkd1
              go_wp2_with fail
              go_quiet (fail)
              have hW := below_dn hbel nq
              generalize wr.drewN nq = W at *
              go_wp2
              go_ret
              exact ⟨⟨_, rfl⟩, hW⟩
          · obtain ⟨h1, h2⟩ := ba_ne hwh
            rw [← hkd] at k2
            clear hkd1
            go_wp2_with fail
            go_quiet (fail)
            have hW := below_dn hbel nq
            generalize wr.drewN nq = W at *
            go_wp2
            go_ret
            exact ⟨⟨_, rfl⟩, hW⟩
        · have hkd1 : (r.kind != q.kind) = true := by simp [hkd]
          have hkd2 : (r.kind == q.kind) = false := by simp [hkd]
          go_wp2_with fail
          go_quiet (fail)
          have hW := below_dn hbel nq
          generalize wr.drewN nq = W at *
          go_wp2
          go_ret
          exact ⟨⟨_, rfl⟩, hW⟩
      · go_wp2
        go_ret
        exact ⟨⟨_, rfl⟩, hbel⟩
  · have h1 : ((L.length : Int) != (M.length : Int)) = true := by simp; omega
    have h2 : ((L.length : Int) == (M.length : Int)) = false := by simp; omega
    go_enter Tryz.func23, Tryz.ntmps23
    go_wp2
    go_ret
    exact ⟨⟨_, rfl⟩, Below.refl _ _⟩
end Go.Proofs.YtjldlmonccgopaaGreat.Rc
