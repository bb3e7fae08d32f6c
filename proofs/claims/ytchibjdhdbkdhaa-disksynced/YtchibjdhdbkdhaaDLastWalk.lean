/- DiskLast: what the call answers. -/
import Derived.Test.YtchibjdhdbkdhaaDSteps
import Derived.Deep.RegionHeld3
import Derived.Deep.DrawnRows
namespace Go.Proofs.Ytchibjdhdbkdhaa
open Go.RowKit
set_option linter.unusedVariables false
set_option maxRecDepth 100000
set_option linter.unusedSimpArgs false

theorem Try.info9 : (Try.prog.info? 9).map (fun i => (i.zero, i.size, i.bytes)) = some (some (.string ByteArray.empty), 1, 16) := by kernel_rfl
theorem strs_rep (n : Nat) : strs (List.replicate n ByteArray.empty) = List.replicate n (.string ByteArray.empty) := by simp [strs]
theorem strs_set (X : List ByteArray) (i : Nat) (s : ByteArray) : strs (X.set i s) = (strs X).set i (.string s) := by simp [strs, List.map_set]
theorem strs_at {w : World} {base g n cap : Nat} {X : List ByteArray} (hown : w.ownsRow base 9 1 (.slice (some ⟨g, 0, none⟩) n cap) n (strs X)) (k : Nat) (hk : k < X.length) : w.cell? ⟨g, k, none⟩ = some (.string (X.getD k ByteArray.empty)) := by
  have hn : (strs X).length = n * 1 := hown.1
  have h := hown.cellAt k (by rw [← hn]; simpa [strs] using hk)
  rw [h]; simp [strs, hk]
/-- A row of strings stands behind a call on the disk. -/
theorem own_kp {B b : Nat} {u v : World} {base : Nat} {e : TypeId} {x : Value} {n : Nat} {xs : List Value} (h : u.ownsRow base e 1 x n xs) (k : Kp B b u v) (hne : e ≠ 3) (hb : x.ownBlock ≠ some b) : v.ownsRow base e 1 x n xs := by
  obtain ⟨h1, h2⟩ := h
  refine ⟨h1, ?_⟩
  rcases h2 with h2 | ⟨g, cap, cur, hv, hg, hh, r⟩
  · exact Or.inl h2
  · refine Or.inr ⟨g, cap, cur, hv, hg, k.oth g _ hh ?_ ?_, r⟩
    · intro e1; apply hb; rw [hv]; exact e1
    · intro c fz e1
      simp only [Obj.cells.injEq] at e1
      exact hne e1.2.1
/-- The disk stands where a row of strings is written. -/
theorem DiskIs.other {w : World} {b g k : Nat} {D : Dsk} {c : Array Value} {t : TypeId} {fz : Nat × Nat} (h : DiskIs w b D) (hg : w.heap[g]? = some (.cells c t fz)) (h1 : t ≠ 3) (h2 : t ≠ 59) (v : Value) : DiskIs (w.setCell ⟨g, k, none⟩ v) b D := by
  obtain ⟨sl, h⟩ := h
  have hne : b ≠ g := by
    intro e; subst e
    have := h.blk.symm.trans hg
    simp only [Option.some.injEq, Obj.cells.injEq] at this
    exact h2 this.2.1.symm
  refine ⟨sl, (Below.heap_setCell w ⟨g, k, none⟩ v b hne).trans h.blk, ownsRow_setCell_other h.own ?_ v, h.good⟩
  exact own_ne h.own hg (fun e => h1 e.symm)
theorem own_block {w : World} {base g n cap : Nat} {e : TypeId} {xs : List Value} (h : w.ownsRow base e 1 (.slice (some ⟨g, 0, none⟩) n cap) n xs) : ∃ c fz, w.heap[g]? = some (.cells c e fz) := own_kind h g rfl
structure LastSt (X : List ByteArray) (k : Nat) (D : Dsk) : Prop where
  calm : Calm D
  ops : D.ops ≤ 3 * k
  wr : D.wr = X
  len : X.length = 256
theorem last_start : LastSt (List.replicate 256 ByteArray.empty) 0 Dsk.new := ⟨calm_new, Nat.le_refl _, rfl, List.length_replicate⟩
theorem write_out (D : Dsk) (i : Int) (s : ByteArray) (hi : i < 0 ∨ 256 ≤ i) : D.write i s = (D, 40) := by unfold Dsk.write; rw [if_pos hi]
theorem crash_zero (w : World) (B b : Nat) (D : Dsk) (hB : B ≤ b) (h : DiskIs w b D) :
    Calls Try.prog 11 #[.pointer (some ⟨b, 0, none⟩), .int .u64 0] w fun e w' => e = .returned (.tuple #[]) ∧ DiskIs w' b (D.crash 0) ∧ Kp B b w w' := by
  have := crash_any w B b D 0 (by omega) hB h
  rwa [show ((0 : Nat) : Int) = 0 from rfl] at this
/-- The last words: a Sync, a crash that keeps nothing. -/
theorem last_end {X : List ByteArray} {k : Nat} {D : Dsk} (h : LastSt X k D) : (∀ i : Nat, i < 256 → (D.sync.1.crash 0).read i = X.getD i ByteArray.empty) ∧ (D.sync.1.crash 0).dead = true := by
  obtain ⟨h1, h2, h3, h4, h5, h6⟩ := h.calm.sync
  obtain ⟨g1, g2⟩ := h2.crash 0
  refine ⟨fun i hi => ?_, g2⟩
  rw [read_in _ _ hi, g1, h5, h4, h.wr]
  rfl
/-- What a round does, ahead of its own Syncs. -/
theorem last_cases {X : List ByteArray} {k : Nat} {D : Dsk} (h : LastSt X k D) (v : Stp) :
    (v.i < 0 ∧ D.write v.i v.s = (D, 40)) ∨ (0 ≤ v.i ∧ ¬ v.i < 256 ∧ D.write v.i v.s = (D, 40)) ∨ (0 ≤ v.i ∧ v.i < 256 ∧ ¬ (v.s.size : Int) ≤ 256 ∧ D.write v.i v.s = (D, 41)) ∨
    (0 ≤ v.i ∧ v.i < 256 ∧ (v.s.size : Int) ≤ 256 ∧ (D.write v.i v.s).2 = 0 ∧ Calm (D.write v.i v.s).1 ∧ (D.write v.i v.s).1.wr = X.set v.i.toNat v.s ∧ (D.write v.i v.s).1.ops ≤ 3 * k + 1) := by
  rcases (show v.i < 0 ∨ (0 ≤ v.i ∧ ¬ v.i < 256) ∨ (0 ≤ v.i ∧ v.i < 256) by omega) with h1 | ⟨h1, h2⟩ | ⟨h1, h2⟩
  · exact Or.inl ⟨h1, write_out D _ _ (Or.inl h1)⟩
  · exact Or.inr (Or.inl ⟨h1, h2, write_out D _ _ (Or.inr (by omega))⟩)
  · by_cases h3 : (v.s.size : Int) ≤ 256
    · have hw := h.calm.write v.i.toNat v.s (by omega) (by omega)
      rw [show ((v.i.toNat : Nat) : Int) = v.i by omega] at hw
      obtain ⟨g1, g2, g3, g4, g5, g6⟩ := hw
      exact Or.inr (Or.inr (Or.inr ⟨h1, h2, h3, g1, g2, by rw [g3, h.wr], by have := h.ops; omega⟩))
    · have hw := write_big D v.i.toNat v.s (by omega) (by omega)
      rw [show ((v.i.toNat : Nat) : Int) = v.i by omega] at hw
      exact Or.inr (Or.inr (Or.inl ⟨h1, h2, h3, hw⟩))
theorem sync2 {D : Dsk} (h : Calm D) : D.sync.2 = 0 ∧ D.sync.1.sync.2 = 0 ∧ Calm D.sync.1.sync.1 ∧ D.sync.1.sync.1.wr = D.wr ∧ D.sync.1.sync.1.ops = D.ops + 2 ∧ D.sync.1.ops = D.ops + 1 := by
  obtain ⟨h1, h2, h3, h4, h5, h6⟩ := h.sync
  obtain ⟨g1, g2, g3, g4, g5, g6⟩ := h2.sync
  exact ⟨h1, g1, g2, by rw [g3, h3], by omega, h6⟩
set_option maxHeartbeats 8000000 in
theorem last_any (a0 : Option Addr) (len0 cap0 : Nat) (z : Nat → Stp) (w : World) (w0 : IsSteps w a0 len0 cap0 z) :
    Calls Try.prog 3 #[.slice a0 len0 cap0] w fun e w' => e = .returned (.bool true) ∧ Below w.heap.size w w' := by
  obtain ⟨i0, hi, hz0, hz1, hz2⟩ := info_parts Try.info9
  go_enter Try.func3, Try.ntmps3
  go_wp2_with fail
  refine (heavy_any w a0 len0 cap0 z w0).mono ?_
  rintro e W0 ⟨h | ⟨h, hlen⟩, rfl⟩
  · rw [h]
    go_wp2
    go_ret
    exact ⟨rfl, Below.refl _ _⟩
  rw [h]
  clear h
  have hlen' : (len0 : Int) ≤ 1024 := by omega
  go_wp2_with fail
  refine (new_any W0).mono ?_
  rintro e W1 ⟨rfl, hd, hb⟩
  have hs1 : W0.heap.size < W1.heap.size := by obtain ⟨sl, h⟩ := hd; exact lt_of_block h.blk
  go_wp2_with (first | (at_make; refine wpList_make_full _ rfl _ _ 26 rfl W1.heap.size 9 i0 (.string ByteArray.empty) 1 Try.underlying26 hi hz0 hz1 _ _ _ _ 256 rfl rfl (by omega) (by omega) (by rw [hz2]; omega) (by unfold maxLen; omega) (by simp) ?_))
  intro W2 hown hgrow
  have hb2 : Below W1.heap.size W1 W2 := (Below.refl _ _).grown hgrow (Nat.le_refl _) (by intro k hk; simp at hk)
  have hd2 := hd.below hb2
  have hbb := hb.trans (hb2.mono (by omega))
  simp only [toList_madeCells_one, Value.cells, Nat.mul_one] at hown
  rw [← strs_rep] at hown
  clear hd hb hb2 hgrow
  have hne : (W1.heap.size : Nat) ≠ W0.heap.size := by omega
  generalize W1.heap.size = g at *
  clear W1
  go_wp2
  go_loopw [5] (fun i W => ∃ (k : Nat) (D : Dsk) (X : List ByteArray), k ≤ len0 ∧ i = .int .i64 k ∧ LastSt X k D ∧ DiskIs W W0.heap.size D ∧ W.ownsRow g 9 1 (.slice (some ⟨g, 0, none⟩) 256 256) 256 (strs X) ∧ Below W0.heap.size W0 W) (fun i _ => len0 - (intOf i).toNat)
  case atStart => exact ⟨0, _, _, Nat.zero_le _, rfl, last_start, hd2, hown, hbb⟩
  case round =>
    obtain ⟨k, D, X, hk, rfl, hst, hd1, hown1, hb1⟩ := hrel
    clear hd2 hown hbb
    have hops : D.ops < 4000000 := by have := hst.ops; omega
    have HST := hid hst
    clear hst
    by_cases hlt : k < len0
    · obtain ⟨b, off, rfl, hs, hf, hl, hc, hbl⟩ := w0.at k hlt
      have hcs := last_cases HST.out (z k)
      generalize z k = v at *
      obtain ⟨kd, iv, sv, kp⟩ := v
      simp only at hcs
      have hb0 := hb1.drew
      have hs0 := hs.below hb0
      have c0 := hs0.kind
      have c1 := hs0.i
      have c2 := hs0.s
      have hd0 := hd1.drew
      have hsz : sv.size ≤ 9223372036854775807 := hf.s
      have hown0 := hown1.drew
      simp only at c0 c1 c2
      rcases hcs with ⟨h1, hw⟩ | ⟨h1, h2, hw⟩ | ⟨h1, h2, h3, hw⟩ | ⟨h1, h2, h3, h4, h5, h6, h7⟩
      · have HW := hid hw
        clear hw
        by_cases hkd : kd = 1
        · subst hkd
          go_wp2
          go_region_held3 (fun w' => w'.cell? ⟨b, off + k * 4 + 1, none⟩ = some (.int .i64 iv) ∧ w'.cell? ⟨b, off + k * 4 + 2, none⟩ = some (.string sv)) (first | exact ⟨c1, c2⟩ | exact ⟨c4, c5⟩) (first | (go_at_call 9; refine (write_any _ W0.heap.size W0.heap.size D iv sv (by omega) (Nat.le_refl _) hd0).mono ?_; rintro e W3 ⟨rfl, hd3, k3⟩; rw [HW.out] at hd3 ⊢; have hb3 := below_kp hb0 k3; have hs3 := hs.below hb3; have c3 := hs3.kind; have c4 := hs3.i; have c5 := hs3.s; have hown3 := own_kp hown0 k3 (by decide) (by simp [Value.ownBlock]; omega)))
          all_goals
            clear c0 c1 c2 hd0 hb0 hs0 hown0 hd1 hb1 hown1 k3 hs3
            go_wp2_with fail
            refine (sync_any _ W0.heap.size W0.heap.size D (by have := HST.out.ops; omega) (Nat.le_refl _) hd3).mono ?_
            rintro e W4 ⟨rfl, hd4, k4⟩
            have H2 := hid (sync2 HST.out.calm)
            rw [H2.out.1]
            have hb4 := below_kp hb3 k4
            have hown4 := own_kp hown3 k4 (by decide) (by simp [Value.ownBlock]; omega)
            clear hd3 hb3 k4 c3 c4 c5 hown3
            go_wp2_with fail
            refine (sync_any _ W0.heap.size W0.heap.size D.sync.1 (by have := H2.out.2.2.2.2.2; have := HST.out.ops; omega) (Nat.le_refl _) hd4).mono ?_
            rintro e W5 ⟨rfl, hd5, k5⟩
            rw [H2.out.2.1]
            have hb5 := below_kp hb4 k5
            have hown5 := own_kp hown4 k5 (by decide) (by simp [Value.ownBlock]; omega)
            clear hd4 hb4 k5 hown4
            go_wp2
            go_roundw
            case rel => exact ⟨k + 1, _, X, by omega, by go_num, ⟨H2.out.2.2.1, by have := H2.out.2.2.2.2.1; have := HST.out.ops; omega, by rw [H2.out.2.2.2.1]; exact HST.out.wr, HST.out.len⟩, hd5, hown5, hb5⟩
            case measure => simp [intOf]; omega
        · have hkd' : (kd == 1) = false := beq_eq_false_iff_ne.2 hkd
          go_wp2
          go_region_held3 (fun w' => w'.cell? ⟨b, off + k * 4 + 1, none⟩ = some (.int .i64 iv) ∧ w'.cell? ⟨b, off + k * 4 + 2, none⟩ = some (.string sv)) (first | exact ⟨c1, c2⟩ | exact ⟨c4, c5⟩) (first | (go_at_call 9; refine (write_any _ W0.heap.size W0.heap.size D iv sv (by omega) (Nat.le_refl _) hd0).mono ?_; rintro e W3 ⟨rfl, hd3, k3⟩; rw [HW.out] at hd3 ⊢; have hb3 := below_kp hb0 k3; have hs3 := hs.below hb3; have c3 := hs3.kind; have c4 := hs3.i; have c5 := hs3.s; have hown3 := own_kp hown0 k3 (by decide) (by simp [Value.ownBlock]; omega)))
          all_goals
            clear c0 c1 c2 hd0 hb0 hs0 hown0 hd1 hb1 hown1 k3 hs3
            go_wp2
            go_roundw
            case rel => exact ⟨k + 1, D, X, by omega, by go_num, ⟨HST.out.calm, by have := HST.out.ops; omega, HST.out.wr, HST.out.len⟩, hd3, hown3, hb3⟩
            case measure => simp [intOf]; omega
      · have HW := hid hw
        clear hw
        by_cases hkd : kd = 1
        · subst hkd
          go_wp2
          go_region_held3 (fun w' => w'.cell? ⟨b, off + k * 4 + 1, none⟩ = some (.int .i64 iv) ∧ w'.cell? ⟨b, off + k * 4 + 2, none⟩ = some (.string sv)) (first | exact ⟨c1, c2⟩ | exact ⟨c4, c5⟩) (first | (go_at_call 9; refine (write_any _ W0.heap.size W0.heap.size D iv sv (by omega) (Nat.le_refl _) hd0).mono ?_; rintro e W3 ⟨rfl, hd3, k3⟩; rw [HW.out] at hd3 ⊢; have hb3 := below_kp hb0 k3; have hs3 := hs.below hb3; have c3 := hs3.kind; have c4 := hs3.i; have c5 := hs3.s; have hown3 := own_kp hown0 k3 (by decide) (by simp [Value.ownBlock]; omega)))
          all_goals
            clear c0 c1 c2 hd0 hb0 hs0 hown0 hd1 hb1 hown1 k3 hs3
            go_wp2_with fail
            refine (sync_any _ W0.heap.size W0.heap.size D (by have := HST.out.ops; omega) (Nat.le_refl _) hd3).mono ?_
            rintro e W4 ⟨rfl, hd4, k4⟩
            have H2 := hid (sync2 HST.out.calm)
            rw [H2.out.1]
            have hb4 := below_kp hb3 k4
            have hown4 := own_kp hown3 k4 (by decide) (by simp [Value.ownBlock]; omega)
            clear hd3 hb3 k4 c3 c4 c5 hown3
            go_wp2_with fail
            refine (sync_any _ W0.heap.size W0.heap.size D.sync.1 (by have := H2.out.2.2.2.2.2; have := HST.out.ops; omega) (Nat.le_refl _) hd4).mono ?_
            rintro e W5 ⟨rfl, hd5, k5⟩
            rw [H2.out.2.1]
            have hb5 := below_kp hb4 k5
            have hown5 := own_kp hown4 k5 (by decide) (by simp [Value.ownBlock]; omega)
            clear hd4 hb4 k5 hown4
            go_wp2
            go_roundw
            case rel => exact ⟨k + 1, _, X, by omega, by go_num, ⟨H2.out.2.2.1, by have := H2.out.2.2.2.2.1; have := HST.out.ops; omega, by rw [H2.out.2.2.2.1]; exact HST.out.wr, HST.out.len⟩, hd5, hown5, hb5⟩
            case measure => simp [intOf]; omega
        · have hkd' : (kd == 1) = false := beq_eq_false_iff_ne.2 hkd
          go_wp2
          go_region_held3 (fun w' => w'.cell? ⟨b, off + k * 4 + 1, none⟩ = some (.int .i64 iv) ∧ w'.cell? ⟨b, off + k * 4 + 2, none⟩ = some (.string sv)) (first | exact ⟨c1, c2⟩ | exact ⟨c4, c5⟩) (first | (go_at_call 9; refine (write_any _ W0.heap.size W0.heap.size D iv sv (by omega) (Nat.le_refl _) hd0).mono ?_; rintro e W3 ⟨rfl, hd3, k3⟩; rw [HW.out] at hd3 ⊢; have hb3 := below_kp hb0 k3; have hs3 := hs.below hb3; have c3 := hs3.kind; have c4 := hs3.i; have c5 := hs3.s; have hown3 := own_kp hown0 k3 (by decide) (by simp [Value.ownBlock]; omega)))
          all_goals
            clear c0 c1 c2 hd0 hb0 hs0 hown0 hd1 hb1 hown1 k3 hs3
            go_wp2
            go_roundw
            case rel => exact ⟨k + 1, D, X, by omega, by go_num, ⟨HST.out.calm, by have := HST.out.ops; omega, HST.out.wr, HST.out.len⟩, hd3, hown3, hb3⟩
            case measure => simp [intOf]; omega
      · have HW := hid hw
        clear hw
        by_cases hkd : kd = 1
        · subst hkd
          go_wp2
          go_region_held3 (fun w' => w'.cell? ⟨b, off + k * 4 + 1, none⟩ = some (.int .i64 iv) ∧ w'.cell? ⟨b, off + k * 4 + 2, none⟩ = some (.string sv)) (first | exact ⟨c1, c2⟩ | exact ⟨c4, c5⟩) (first | (go_at_call 9; refine (write_any _ W0.heap.size W0.heap.size D iv sv (by omega) (Nat.le_refl _) hd0).mono ?_; rintro e W3 ⟨rfl, hd3, k3⟩; rw [HW.out] at hd3 ⊢; have hb3 := below_kp hb0 k3; have hs3 := hs.below hb3; have c3 := hs3.kind; have c4 := hs3.i; have c5 := hs3.s; have hown3 := own_kp hown0 k3 (by decide) (by simp [Value.ownBlock]; omega)))
          all_goals
            clear c0 c1 c2 hd0 hb0 hs0 hown0 hd1 hb1 hown1 k3 hs3
            go_wp2_with fail
            refine (sync_any _ W0.heap.size W0.heap.size D (by have := HST.out.ops; omega) (Nat.le_refl _) hd3).mono ?_
            rintro e W4 ⟨rfl, hd4, k4⟩
            have H2 := hid (sync2 HST.out.calm)
            rw [H2.out.1]
            have hb4 := below_kp hb3 k4
            have hown4 := own_kp hown3 k4 (by decide) (by simp [Value.ownBlock]; omega)
            clear hd3 hb3 k4 c3 c4 c5 hown3
            go_wp2_with fail
            refine (sync_any _ W0.heap.size W0.heap.size D.sync.1 (by have := H2.out.2.2.2.2.2; have := HST.out.ops; omega) (Nat.le_refl _) hd4).mono ?_
            rintro e W5 ⟨rfl, hd5, k5⟩
            rw [H2.out.2.1]
            have hb5 := below_kp hb4 k5
            have hown5 := own_kp hown4 k5 (by decide) (by simp [Value.ownBlock]; omega)
            clear hd4 hb4 k5 hown4
            go_wp2
            go_roundw
            case rel => exact ⟨k + 1, _, X, by omega, by go_num, ⟨H2.out.2.2.1, by have := H2.out.2.2.2.2.1; have := HST.out.ops; omega, by rw [H2.out.2.2.2.1]; exact HST.out.wr, HST.out.len⟩, hd5, hown5, hb5⟩
            case measure => simp [intOf]; omega
        · have hkd' : (kd == 1) = false := beq_eq_false_iff_ne.2 hkd
          go_wp2
          go_region_held3 (fun w' => w'.cell? ⟨b, off + k * 4 + 1, none⟩ = some (.int .i64 iv) ∧ w'.cell? ⟨b, off + k * 4 + 2, none⟩ = some (.string sv)) (first | exact ⟨c1, c2⟩ | exact ⟨c4, c5⟩) (first | (go_at_call 9; refine (write_any _ W0.heap.size W0.heap.size D iv sv (by omega) (Nat.le_refl _) hd0).mono ?_; rintro e W3 ⟨rfl, hd3, k3⟩; rw [HW.out] at hd3 ⊢; have hb3 := below_kp hb0 k3; have hs3 := hs.below hb3; have c3 := hs3.kind; have c4 := hs3.i; have c5 := hs3.s; have hown3 := own_kp hown0 k3 (by decide) (by simp [Value.ownBlock]; omega)))
          all_goals
            clear c0 c1 c2 hd0 hb0 hs0 hown0 hd1 hb1 hown1 k3 hs3
            go_wp2
            go_roundw
            case rel => exact ⟨k + 1, D, X, by omega, by go_num, ⟨HST.out.calm, by have := HST.out.ops; omega, HST.out.wr, HST.out.len⟩, hd3, hown3, hb3⟩
            case measure => simp [intOf]; omega
      · have HG := hid (show Calm (D.write iv sv).1 ∧ (D.write iv sv).1.wr = X.set iv.toNat sv ∧ (D.write iv sv).1.ops ≤ 3 * k + 1 from ⟨h5, h6, h7⟩)
        have HE := hid h4
        clear h4 h5 h6 h7
        go_wp2
        go_region_held3 (fun w' => w'.cell? ⟨b, off + k * 4 + 1, none⟩ = some (.int .i64 iv) ∧ w'.cell? ⟨b, off + k * 4 + 2, none⟩ = some (.string sv)) (first | exact ⟨c1, c2⟩ | exact ⟨c4, c5⟩) (first | (go_at_call 9; refine (write_any _ W0.heap.size W0.heap.size D iv sv (by omega) (Nat.le_refl _) hd0).mono ?_; rintro e W3 ⟨rfl, hd3, k3⟩; rw [HE.out]; have hb3 := below_kp hb0 k3; have hs3 := hs.below hb3; have c3 := hs3.kind; have c4 := hs3.i; have c5 := hs3.s; have hown3 := own_kp hown0 k3 (by decide) (by simp [Value.ownBlock]; omega)))
        all_goals
          generalize (D.write iv sv).1 = D3 at *
          obtain ⟨n, rfl⟩ : ∃ n : Nat, iv = n := ⟨iv.toNat, by omega⟩
          clear c0 c1 c2 hd0 hb0 hs0 hown0 hd1 hb1 hown1 k3 hs3
          have hn : n < 256 := by omega
          simp only [Int.toNat_natCast] at HG
          have hxl := HST.out.len
          have st := strs_at hown3 n (by omega)
          have fr := hown3.frozenAt n
          obtain ⟨cg, fz, hgb⟩ := own_block hown3
          have hd4 := (hd3.other (k := n) hgb (by decide) (by decide) (.string sv)).drew
          have hown4 := hown3.stored n (.string sv)
          rw [← strs_set] at hown4
          have hown5 := hown4.1.drew
          have hb4 := (hb3.setCell (p := ⟨g, n, none⟩) (by show W0.heap.size ≤ g; omega) (.string sv)).drew
          have hlx : (X.set n sv).length = 256 := by rw [List.length_set]; exact hxl
          have HXL := hid hlx
          clear hlx hxl hown4
          go_wp2
          go_region
          generalize (W3.setCell ⟨g, n, none⟩ (.string sv)).drew = W3' at *
          have hs4 := hs.below hb4
          clear hd3 hb3 c3 c4 c5 hown3 st fr hgb
          have c3 := hs4.kind
          have hd3 := hd4
          have hb3 := hb4
          have hown3 := hown5
          clear hd4 hb4 hown5 hs4
          have c4 := c3
          have c5 := c3
          by_cases hkd : kd = 1
          · subst hkd
            go_wp2_with fail
            refine (sync_any _ W0.heap.size W0.heap.size D3 (by have := HG.out.2.2; omega) (Nat.le_refl _) hd3).mono ?_
            rintro e W4 ⟨rfl, hd4, k4⟩
            have H2 := hid (sync2 HG.out.1)
            rw [H2.out.1]
            have hb4 := below_kp hb3 k4
            have hown4 := own_kp hown3 k4 (by decide) (by simp [Value.ownBlock]; omega)
            clear hd3 hb3 k4 c3 c4 c5 hown3
            go_wp2_with fail
            refine (sync_any _ W0.heap.size W0.heap.size D3.sync.1 (by have := H2.out.2.2.2.2.2; have := HG.out.2.2; omega) (Nat.le_refl _) hd4).mono ?_
            rintro e W5 ⟨rfl, hd5, k5⟩
            rw [H2.out.2.1]
            have hb5 := below_kp hb4 k5
            have hown5 := own_kp hown4 k5 (by decide) (by simp [Value.ownBlock]; omega)
            clear hd4 hb4 k5 hown4
            go_wp2
            go_roundw
            case rel => exact ⟨k + 1, _, X.set n sv, by omega, by go_num, ⟨H2.out.2.2.1, by have := H2.out.2.2.2.2.1; have := HG.out.2.2; omega, by rw [H2.out.2.2.2.1]; exact HG.out.2.1, HXL.out⟩, hd5, hown5, hb5⟩
            case measure => simp [intOf]; omega
          · have hkd' : (kd == 1) = false := beq_eq_false_iff_ne.2 hkd
            go_wp2
            go_roundw
            case rel => exact ⟨k + 1, D3, X.set n sv, by omega, by go_num, ⟨HG.out.1, by have := HG.out.2.2; omega, HG.out.2.1, HXL.out⟩, hd3, hown3, hb3⟩
            case measure => simp [intOf]; omega
    · have HL := hid (last_end HST.out)
      go_wp2_with fail
      refine (sync_any _ W0.heap.size W0.heap.size D (by omega) (Nat.le_refl _) hd1).mono ?_
      rintro e W4 ⟨rfl, hd4, k4⟩
      have hb4 := below_kp hb1 k4
      have hown4 := own_kp hown1 k4 (by decide) (by simp [Value.ownBlock]; omega)
      generalize D.sync.2 = e4
      generalize D.sync.1 = D4 at *
      clear hd1 hb1 k4 hown1
      go_wp2_with fail
      refine (crash_zero _ W0.heap.size W0.heap.size D4 (Nat.le_refl _) hd4).mono ?_
      rintro e W5 ⟨rfl, hd5, k5⟩
      have hb5 := below_kp hb4 k5
      have hown5 := own_kp hown4 k5 (by decide) (by simp [Value.ownBlock]; omega)
      generalize D4.crash 0 = D5 at *
      clear hd4 hb4 k5 hown4
      have hxl := HST.out.len
      go_wp2
      go_loop [7] (fun i => ∃ n : Nat, n ≤ 256 ∧ i = .int .i64 n) (fun i => 256 - (intOf i).toNat)
      case atStart => exact ⟨0, Nat.zero_le _, rfl⟩
      case round =>
        obtain ⟨n, hn, rfl⟩ := hrel
        by_cases hn2 : n < 256
        · have st := strs_at hown5 n (by omega)
          have HR := hid (HL.out.1 n hn2)
          have HE := hid (readE_in n hn2)
          generalize X.getD n ByteArray.empty = s at *
          go_wp2_with fail
          refine (read_any _ _ D5 n hd5).mono ?_
          rintro e W6 ⟨rfl, rfl⟩
          rw [HR.out, HE.out]
          go_wp2
          go_round
          case rel => exact ⟨n + 1, by omega, by go_num⟩
          case measure => simp [intOf]; omega
        · go_wp2_with fail
          refine (dead_any _ _ D5 hd5).mono ?_
          rintro e W6 ⟨rfl, rfl⟩
          rw [HL.out.2]
          go_wp2
          go_ret
          exact ⟨rfl, hb5⟩
end Go.Proofs.Ytchibjdhdbkdhaa
