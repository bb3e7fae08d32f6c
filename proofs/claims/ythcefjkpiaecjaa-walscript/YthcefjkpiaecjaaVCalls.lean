/- The document's wal: Append, Checkpoint, walked. -/
import Derived.Test.YthcefjkpiaecjaaVAppend
namespace Go.Proofs.Ythcefjkpiaecjaa
open Go.RowKit
set_option linter.unusedVariables false
set_option maxRecDepth 100000
set_option linter.unusedSimpArgs false

/-- What is behind become. -/
structure VSt where
  D : Dsk
  t : ByteArray
  n : Nat
  a : Nat
  er : Int
  E : Int
def bec (D : Dsk) (t0 : ByteArray) (n a0 : Nat) (er : Int) (t : ByteArray) (a f : Nat) : VSt :=
  if er ≠ 0 then ⟨D, t0, n, a0, er, er⟩ else if 32512 < t.size then ⟨D, t0, n, a0, er, 50⟩
  else if (D.lay (vps a t f) ((comV n a t).num % 2) (comT (comV n a t))).2 ≠ 0 then ⟨(D.lay (vps a t f) ((comV n a t).num % 2) (comT (comV n a t))).1, t0, n, a0, (D.lay (vps a t f) ((comV n a t).num % 2) (comT (comV n a t))).2, (D.lay (vps a t f) ((comV n a t).num % 2) (comT (comV n a t))).2⟩
  else ⟨(D.lay (vps a t f) ((comV n a t).num % 2) (comT (comV n a t))).1, t, (n + 1) % 18446744073709551616, a, 0, 0⟩
theorem vbecome_any (w : World) (B r m : Nat) (D : Dsk) (vw vi vc : Value) (cl fk : Int) (keep : Nat) (t0 : ByteArray) (n a0 : Nat) (er : Int) (t : ByteArray) (a f : Nat) (hB : B ≤ m) (hBr : B ≤ r) (ha : a ≤ 1) (hf : f ≤ 1048576) (hts : t.size ≤ maxLen) (hn : n < 18446744073709551616) (ho : D.ops + 1000 < 4611686018427387904) (hd : RAt w m D vw vi vc cl fk keep) (hinv : Inv D) (hv : VAt w r m t0 n a0 er) :
    Calls Try.prog 30 #[.pointer (some ⟨r, 0, none⟩), .string t, .int .i64 (a : Int), .int .i64 (f : Int)] w fun e w' => e = .returned (.int .i64 (bec D t0 n a0 er t a f).E) ∧ VNext B r m vw vi vc (bec D t0 n a0 er t a f).D (bec D t0 n a0 er t a f).t (bec D t0 n a0 er t a f).n (bec D t0 n a0 er t a f).a (bec D t0 n a0 er t a f).er w w' := by
  by_cases he : er = 0
  · subst he
    by_cases hx : 32512 < t.size
    · have e1 : bec D t0 n a0 0 t a f = ⟨D, t0, n, a0, 0, 50⟩ := by simp [bec, hx]
      rw [e1]
      refine (vbecome_no w r m t0 n a0 0 t a f hts (Or.inr hx) hv).mono ?_
      rintro e w' ⟨rfl, rfl⟩
      exact ⟨by simp, VNext.refl hv hd⟩
    · refine (vbecome_lay w B r m D vw vi vc cl fk keep t0 n a0 t a f hB hBr ha hf (by omega) hn ho hd hinv hv).mono ?_
      rintro e w' ⟨rfl, h1, h2⟩
      by_cases h : (D.lay (vps a t f) ((comV n a t).num % 2) (comT (comV n a t))).2 = 0
      · have e1 : bec D t0 n a0 0 t a f = ⟨(D.lay (vps a t f) ((comV n a t).num % 2) (comT (comV n a t))).1, t, (n + 1) % 18446744073709551616, a, 0, 0⟩ := by simp [bec, hx, h]
        rw [e1, h]
        exact ⟨rfl, h1 h⟩
      · have e1 : bec D t0 n a0 0 t a f = ⟨(D.lay (vps a t f) ((comV n a t).num % 2) (comT (comV n a t))).1, t0, n, a0, (D.lay (vps a t f) ((comV n a t).num % 2) (comT (comV n a t))).2, (D.lay (vps a t f) ((comV n a t).num % 2) (comT (comV n a t))).2⟩ := by simp [bec, hx, h]
        rw [e1]
        exact ⟨rfl, h2 h⟩
  · have e1 : bec D t0 n a0 er t a f = ⟨D, t0, n, a0, er, er⟩ := by simp [bec, he]
    rw [e1]
    refine (vbecome_no w r m t0 n a0 er t a f hts (Or.inl he) hv).mono ?_
    rintro e w' ⟨rfl, rfl⟩
    exact ⟨by simp [he], VNext.refl hv hd⟩
theorem VNext.drew {B r m : Nat} {vw vi vc : Value} {D : Dsk} {t : ByteArray} {n a : Nat} {er : Int} {w w' : World} (h : VNext B r m vw vi vc D t n a er w.drew w') : VNext B r m vw vi vc D t n a er w w' ∧ VNext B r m vw vi vc D t n a er w w'.drew := by
  obtain ⟨h1, v1, c1, f1, k1, r1, o1, q1⟩ := h
  exact ⟨⟨h1, v1, c1, f1, k1, r1, o1, ⟨(Below.refl B w).drew.trans q1.bel, q1.oth⟩⟩, ⟨h1.drew, v1, c1, f1, k1, r1.drew, o1, ⟨((Below.refl B w).drew.trans q1.bel).drew, q1.oth⟩⟩⟩
/-- What Append comes to. -/
def vapp (D : Dsk) (t : ByteArray) (n a : Nat) (er : Int) (s : ByteArray) : VSt := bec D t n a er (t ++ s) a (if s.size = 0 then 1048576 else t.size / 256)
def vchk (D : Dsk) (t : ByteArray) (n a : Nat) (er : Int) (s : ByteArray) : VSt := bec D t n a er s (1 - a) 0
theorem vapp_is (D : Dsk) (t : ByteArray) (n a : Nat) (er : Int) (s : ByteArray) : (VL t n a er).append D s = ((vapp D t n a er s).D, VL (vapp D t n a er s).t (vapp D t n a er s).n (vapp D t n a er s).a (vapp D t n a er s).er, (vapp D t n a er s).E) := by
  rw [vl_append]
  unfold vapp bec
  generalize D.lay (vps a (t ++ s) (if s.size = 0 then 1048576 else t.size / 256)) ((comV n a (t ++ s)).num % 2) (comT (comV n a (t ++ s))) = R
  by_cases he : er = 0
  · by_cases hP : 32512 < (t ++ s).size
    · simp only [he, hP, ne_eq, not_true_eq_false, if_true, if_false]
    · by_cases hR : R.2 = 0
      · simp only [he, hP, hR, ne_eq, not_true_eq_false, if_true, if_false]
      · simp only [he, hP, hR, ne_eq, not_true_eq_false, not_false_eq_true, if_true, if_false]
  · simp only [he, ne_eq, not_false_eq_true, if_true]
theorem vchk_is (D : Dsk) (t : ByteArray) (n a : Nat) (er : Int) (s : ByteArray) : (VL t n a er).checkpoint D s = ((vchk D t n a er s).D, VL (vchk D t n a er s).t (vchk D t n a er s).n (vchk D t n a er s).a (vchk D t n a er s).er, (vchk D t n a er s).E) := by
  rw [vl_check]
  unfold vchk bec
  generalize D.lay (vps (1 - a) s 0) ((comV n (1 - a) s).num % 2) (comT (comV n (1 - a) s)) = R
  by_cases he : er = 0
  · by_cases hP : 32512 < s.size
    · simp only [he, hP, ne_eq, not_true_eq_false, if_true, if_false]
    · by_cases hR : R.2 = 0
      · simp only [he, hP, hR, ne_eq, not_true_eq_false, if_true, if_false]
      · simp only [he, hP, hR, ne_eq, not_true_eq_false, not_false_eq_true, if_true, if_false]
  · simp only [he, ne_eq, not_false_eq_true, if_true]
structure VFit (t : ByteArray) (n a : Nat) : Prop where
  t : t.size ≤ 32512
  n : n < 18446744073709551616
  a : a ≤ 1
theorem bec_fit {D : Dsk} {t0 : ByteArray} {n a0 : Nat} {er : Int} {t : ByteArray} {a f : Nat} (h : VFit t0 n a0) (ha : a ≤ 1) : VFit (bec D t0 n a0 er t a f).t (bec D t0 n a0 er t a f).n (bec D t0 n a0 er t a f).a := by
  unfold bec
  split
  · exact h
  · split
    · exact h
    · split
      · exact h
      · exact ⟨by simp only; omega, Nat.mod_lt _ (by omega), ha⟩
set_option maxHeartbeats 4000000 in
theorem vappend_any (w : World) (B r m : Nat) (D : Dsk) (vw vi vc : Value) (cl fk : Int) (keep : Nat) (t : ByteArray) (n a : Nat) (er : Int) (s : ByteArray) (hB : B ≤ m) (hBr : B ≤ r) (hfit : VFit t n a) (hs : s.size ≤ 1099511627776) (ho : D.ops + 1000 < 4611686018427387904) (hd : RAt w m D vw vi vc cl fk keep) (hinv : Inv D) (hv : VAt w r m t n a er) :
    Calls Try.prog 10 #[.pointer (some ⟨r, 0, none⟩), .string s] w fun e w' => e = .returned (.int .i64 (vapp D t n a er s).E) ∧ VNext B r m vw vi vc (vapp D t n a er s).D (vapp D t n a er s).t (vapp D t n a er s).n (vapp D t n a er s).a (vapp D t n a er s).er w w' := by
  have ht := hfit.t
  have hts : (t ++ s).size = t.size + s.size := ByteArray.size_append
  obtain ⟨F, hF, hF2⟩ : ∃ F : Nat, F = (if s.size = 0 then 1048576 else t.size / 256) ∧ F ≤ 1048576 := ⟨_, rfl, by split <;> omega⟩
  have hst := vbecome_any w.drew B r m D vw vi vc cl fk keep t n a er (t ++ s) a F hB hBr hfit.a hF2 (by unfold maxLen; omega) hfit.n ho hd.drew hinv hv.drew
  have HUP := hid (fun D2 t2 n2 a2 e2 w2 => VNext.drew (B := B) (r := r) (m := m) (vw := vw) (vi := vi) (vc := vc) (D := D2) (t := t2) (n := n2) (a := a2) (er := e2) (w := w) (w' := w2))
  have hV : vapp D t n a er s = bec D t n a er (t ++ s) a F := by rw [hF]; rfl
  rw [hV]
  generalize bec D t n a er (t ++ s) a F = R at *
  obtain ⟨c0, c1, c2, c3, c4, cf⟩ := hv.cells
  have hsum : ∀ v, (Op.stringOp .add t s).run Try.prog v = .ok (.string (t ++ s)) v := fun v => run_string_add_sum v _ _ (by omega)
  have hdv : Int.tdiv (t.size : Int) 256 = ((t.size / 256 : Nat) : Int) := by simp
  clear hd hv hinv hV
  by_cases h0 : s.size = 0
  · rw [if_pos h0] at hF
    subst hF
    go_enter Try.func10, Try.ntmps10
    go_wp2_with fail
    go_region_with ((go_at_call 30; refine hst.mono ?_; rintro e w2 ⟨rfl, hN⟩))
    all_goals
      simp only [List.getElem_toArray, List.getElem_cons_zero, List.getElem_cons_succ, Act.put, List.setIfInBounds_toArray, List.set_cons_succ, List.set_cons_zero]
      have hN1 := HUP.out _ _ _ _ _ _ hN
      go_wp2
      go_ret
      first
        | exact ⟨rfl, hN1.1⟩
        | exact ⟨rfl, hN1.2⟩
  · rw [if_neg h0] at hF
    rw [← hF] at hdv
    clear hF
    go_enter Try.func10, Try.ntmps10
    go_wp2_with fail
    go_region_with ((go_at_call 30; refine hst.mono ?_; rintro e w2 ⟨rfl, hN⟩))
    all_goals
      simp only [List.getElem_toArray, List.getElem_cons_zero, List.getElem_cons_succ, Act.put, List.setIfInBounds_toArray, List.set_cons_succ, List.set_cons_zero]
      have hN1 := HUP.out _ _ _ _ _ _ hN
      go_wp2
      go_ret
      first
        | exact ⟨rfl, hN1.1⟩
        | exact ⟨rfl, hN1.2⟩
set_option maxHeartbeats 4000000 in
theorem vcheck_any (w : World) (B r m : Nat) (D : Dsk) (vw vi vc : Value) (cl fk : Int) (keep : Nat) (t : ByteArray) (n a : Nat) (er : Int) (s : ByteArray) (hB : B ≤ m) (hBr : B ≤ r) (hfit : VFit t n a) (hs : s.size ≤ 1099511627776) (ho : D.ops + 1000 < 4611686018427387904) (hd : RAt w m D vw vi vc cl fk keep) (hinv : Inv D) (hv : VAt w r m t n a er) :
    Calls Try.prog 12 #[.pointer (some ⟨r, 0, none⟩), .string s] w fun e w' => e = .returned (.int .i64 (vchk D t n a er s).E) ∧ VNext B r m vw vi vc (vchk D t n a er s).D (vchk D t n a er s).t (vchk D t n a er s).n (vchk D t n a er s).a (vchk D t n a er s).er w w' := by
  have hst := vbecome_any w B r m D vw vi vc cl fk keep t n a er s (1 - a) 0 hB hBr (by omega) (by omega) (by unfold maxLen; omega) hfit.n ho hd hinv hv
  have ha := hfit.a
  unfold vchk
  generalize bec D t n a er s (1 - a) 0 = R at *
  obtain ⟨c0, c1, c2, c3, c4, cf⟩ := hv.cells
  obtain ⟨q, hq, hq2⟩ : ∃ q : Nat, (1 : Int) - (a : Int) = (q : Int) ∧ q = 1 - a := ⟨1 - a, by omega, rfl⟩
  rw [← hq2] at hst
  clear hd hv hinv hq2
  go_enter Try.func12, Try.ntmps12
  go_wp2_with fail
  refine hst.mono ?_
  rintro e w2 ⟨rfl, hN⟩
  go_wp2
  go_ret
  exact ⟨rfl, hN⟩
end Go.Proofs.Ythcefjkpiaecjaa
