/- DiskSynced: what the call answers. -/
import Derived.Test.YtchibjdhdbkdhaaDScriptWalk
namespace Go.Proofs.Ytchibjdhdbkdhaa
open Go.RowKit
set_option linter.unusedVariables false
set_option maxRecDepth 100000
set_option linter.unusedSimpArgs false

theorem Try.info4 : (Try.prog.info? 4).map (fun i => (i.zero, i.size, i.bytes)) = some (some (.bool false), 1, 1) := by kernel_rfl
def bls (L : List Bool) : List Value := L.map Value.bool
theorem bls_rep (n : Nat) : bls (List.replicate n false) = List.replicate n (.bool false) := by simp [bls]
theorem bls_set (X : List Bool) (i : Nat) (s : Bool) : bls (X.set i s) = (bls X).set i (.bool s) := by simp [bls, List.map_set]
theorem bls_at {w : World} {base g n cap : Nat} {X : List Bool} (hown : w.ownsRow base 4 1 (.slice (some ⟨g, 0, none⟩) n cap) n (bls X)) (k : Nat) (hk : k < X.length) : w.cell? ⟨g, k, none⟩ = some (.bool (X.getD k false)) := by
  have hn : (bls X).length = n * 1 := hown.1
  have h := hown.cellAt k (by rw [← hn]; simpa [bls] using hk)
  rw [h]; simp [bls, hk]
theorem DiskAt.other {w : World} {b g k : Nat} {D : Dsk} {sl : Value} {c : Array Value} {t : TypeId} {fz : Nat × Nat} (h : DiskAt w b D sl) (hg : w.heap[g]? = some (.cells c t fz)) (h1 : t ≠ 3) (h2 : t ≠ 59) (v : Value) : DiskAt (w.setCell ⟨g, k, none⟩ v) b D sl :=
  ⟨(Below.heap_setCell w ⟨g, k, none⟩ v b (kind_ne h.blk hg (fun e => h2 e.symm))).trans h.blk, ownsRow_setCell_other h.own (own_ne h.own hg (fun e => h1 e.symm)) v, h.good⟩
theorem RAt.other {w : World} {b g k : Nat} {D : Dsk} {vw vi vc : Value} {cl fk : Int} {keep : Nat} {c : Array Value} {t : TypeId} {fz : Nat × Nat} (h : RAt w b D vw vi vc cl fk keep) (hg : w.heap[g]? = some (.cells c t fz)) (h1 : t ≠ 52) (h2 : t ≠ 3) (h3 : t ≠ 9) (v : Value) : RAt (w.setCell ⟨g, k, none⟩ v) b D vw vi vc cl fk keep :=
  ⟨(Below.heap_setCell w ⟨g, k, none⟩ v b (kind_ne h.blk hg (fun e => h1 e.symm))).trans h.blk, ownsRow_setCell_other h.was (own_ne h.was hg (fun e => h3 e.symm)) v, ownsRow_setCell_other h.is (own_ne h.is hg (fun e => h3 e.symm)) v, ownsRow_setCell_other h.ca (own_ne h.ca hg (fun e => h2 e.symm)) v, h.ne, h.good, h.cl, h.fk, h.kp⟩
theorem Two.down {w w' : World} {B b c : Nat} {D D' E : Dsk} {sl vw vi vc : Value} {cl fk : Int} {keep : Nat} {base : Nat} {v : Value} {n : Nat} {xs : List Value} (h : Two w b c D E sl vw vi vc cl fk keep) (k : DNext B b sl D' w w') (hv : w.ownsRow base 4 1 v n xs) : w'.ownsRow base 4 1 v n xs := by
  obtain ⟨_, _, _, h3⟩ := k
  refine own_kf hv h3 fun g hg => ?_
  obtain ⟨c', fz, hc⟩ := own_kind hv g hg
  exact h.d.out hc (by decide) (by decide)
theorem calm_cases {D : Dsk} (h : Calm D) (i : Int) (s : ByteArray) :
    (i < 0 ∧ D.write i s = (D, 40)) ∨ (0 ≤ i ∧ ¬ i < 256 ∧ D.write i s = (D, 40)) ∨ (0 ≤ i ∧ i < 256 ∧ ¬ (s.size : Int) ≤ 256 ∧ D.write i s = (D, 41)) ∨
    (0 ≤ i ∧ i < 256 ∧ (s.size : Int) ≤ 256 ∧ (D.write i s).2 = 0 ∧ Calm (D.write i s).1 ∧ (D.write i s).1.wr = D.wr.set i.toNat s ∧ (D.write i s).1.la = D.la ∧ (D.write i s).1.ca = (if i.toNat ∈ D.ca then D.ca else D.ca ++ [i.toNat]) ∧ (D.write i s).1.ops = D.ops + 1) := by
  rcases (show i < 0 ∨ (0 ≤ i ∧ ¬ i < 256) ∨ (0 ≤ i ∧ i < 256) by omega) with h1 | ⟨h1, h2⟩ | ⟨h1, h2⟩
  · exact Or.inl ⟨h1, write_out D _ _ (Or.inl h1)⟩
  · exact Or.inr (Or.inl ⟨h1, h2, write_out D _ _ (Or.inr (by omega))⟩)
  · by_cases h3 : (s.size : Int) ≤ 256
    · have hw := h.write i.toNat s (by omega) (by omega)
      rw [show ((i.toNat : Nat) : Int) = i by omega] at hw
      obtain ⟨g1, g2, g3, g4, g5, g6⟩ := hw
      exact Or.inr (Or.inr (Or.inr ⟨h1, h2, h3, g1, g2, g3, g4, g5, g6⟩))
    · have hw := write_big D i.toNat s (by omega) (by omega)
      rw [show ((i.toNat : Nat) : Int) = i by omega] at hw
      exact Or.inr (Or.inr (Or.inl ⟨h1, h2, h3, hw⟩))
theorem calm_step {D : Dsk} (h : Calm D) (v : Stp) (hk : v.kind < 2) : Calm (D.step v) := by
  unfold Dsk.step
  rw [if_neg (show ¬ v.kind = 2 by omega), if_neg (show ¬ v.kind = 3 by omega), if_neg (show ¬ v.kind = 4 by omega), if_neg (show ¬ v.kind = 5 by omega)]
  split
  · rcases calm_cases h v.i v.s with ⟨_, e⟩ | ⟨_, _, e⟩ | ⟨_, _, _, e⟩ | ⟨_, _, _, _, e, _⟩
    · rw [e]; exact h
    · rw [e]; exact h
    · rw [e]; exact h
    · exact e
  · split
    · exact h.sync.2.1
    · exact h
/-- Behind the Sync, when some sectors were written again: those that L marks. -/
structure SynSt (X : List ByteArray) (L : List Bool) (D : Dsk) : Prop where
  calm : Calm D
  la : D.la = X
  wl : D.wr.length = 256
  len : L.length = 256
  un : ∀ i, i < 256 → L.getD i false = false → i ∉ D.ca ∧ D.wr.getD i ByteArray.empty = X.getD i ByteArray.empty
theorem syn_start {D : Dsk} (h : Calm D) (hg : D.Good) : SynSt D.wr (List.replicate 256 false) D.sync.1 := by
  obtain ⟨h1, h2, h3, h4, h5, h6⟩ := h.sync
  exact ⟨h2, h4, by rw [h3]; exact hg.wl, List.length_replicate, fun i hi _ => ⟨by rw [h5]; simp, by rw [h3]⟩⟩
theorem syn_step {X : List ByteArray} {L : List Bool} {D D' : Dsk} (h : SynSt X L D) (n : Nat) (hn : n < 256) (s : ByteArray) (g2 : Calm D') (g3 : D'.wr = D.wr.set n s) (g4 : D'.la = D.la) (g5 : D'.ca = (if n ∈ D.ca then D.ca else D.ca ++ [n])) : SynSt X (L.set n true) D' := by
  refine ⟨g2, by rw [g4]; exact h.la, by rw [g3, List.length_set]; exact h.wl, by rw [List.length_set]; exact h.len, fun i hi hL => ?_⟩
  have hne : i ≠ n := by
    intro e
    subst e
    rw [List.getD_eq_getElem?_getD, List.getElem?_set_self (by rw [h.len]; exact hi)] at hL
    simp at hL
  have hL' : L.getD i false = false := by
    rw [List.getD_eq_getElem?_getD, List.getElem?_set_ne (fun e => hne e.symm)] at hL
    rw [List.getD_eq_getElem?_getD]; exact hL
  obtain ⟨u1, u2⟩ := h.un i hi hL'
  refine ⟨?_, by rw [g3, getD_set (by rw [h.wl]; exact hn), if_neg hne]; exact u2⟩
  rw [g5]
  split
  · exact u1
  · rw [List.mem_append]
    rintro (e | e)
    · exact u1 e
    · simp at e; exact hne e
theorem syn_crash {X : List ByteArray} {L : List Bool} {D : Dsk} (h : SynSt X L D) (keep i : Nat) (hi : i < 256) (hL : L.getD i false = false) : (D.crash keep).read i = X.getD i ByteArray.empty := by
  rw [read_in _ _ hi, (h.calm.crash keep).1, loseL_other _ _ _ _ _ _ (h.un i hi hL).1, h.la]
theorem dead_ends {D : Dsk} (h : D.dead = true) : D.write 0 ⟨#[]⟩ = (D, 43) ∧ D.sync = (D, 43) := by
  have hb : D.begin = (D, 43) := by simp [Dsk.begin, h]
  refine ⟨?_, by unfold Dsk.sync; rw [hb]; simp⟩
  have := write_begin D 0 ⟨#[]⟩ (by omega) (by decide)
  rw [hb] at this
  simpa using this
theorem write_lit (w : World) (B b : Nat) (D : Dsk) (sl : Value) (s : ByteArray) (ho : D.ops < 4611686018427387904) (hB : B ≤ b) (h : DiskAt w b D sl) :
    Calls Try.prog 9 #[.pointer (some ⟨b, 0, none⟩), .int .i64 0, .string s] w fun e w' => e = .returned (.int .i64 (D.write 0 s).2) ∧ DNext B b sl (D.write 0 s).1 w w' := write_at w B b D sl 0 s ho hB h
theorem two_syn {w W1 W2 : World} {b c : Nat} {D : Dsk} (h : Both W1 b c D) : ∃ sl vw vi vc cl fk keep, Inv D ∧ Two W1 b c D D sl vw vi vc cl fk keep := by
  obtain ⟨hi, sl, vw, vi, vc, cl, fk, keep, h⟩ := h
  exact ⟨sl, vw, vi, vc, cl, fk, keep, hi, h⟩
set_option maxHeartbeats 8000000 in
theorem synced_any (a0 : Option Addr) (len0 cap0 : Nat) (z0 : Nat → Stp) (a1 : Option Addr) (len1 cap1 : Nat) (z1 : Nat → Stp) (keep : Nat) (w : World) (w0 : IsSteps w a0 len0 cap0 z0) (w1 : IsSteps w a1 len1 cap1 z1) (hkeep : keep < 18446744073709551616) :
    Calls Try.prog 6 #[.slice a0 len0 cap0, .slice a1 len1 cap1, .int .u64 (keep : Int)] w fun e w' => e = .returned (.bool true) ∧ Below w.heap.size w w' := by
  obtain ⟨i0, hi, hz0, hz1, hz2⟩ := info_parts Try.info4
  go_enter Try.func6, Try.ntmps6
  go_wp2_with fail
  refine (heavy_any w a0 len0 cap0 z0 w0).mono ?_
  rintro e Wx ⟨h | ⟨h, hlen⟩, rfl⟩
  · rw [h]
    go_wp2
    go_ret
    exact ⟨rfl, Below.refl _ _⟩
  rw [h]
  clear h
  go_wp2_with fail
  refine (heavy_any _ a1 len1 cap1 z1 w1).mono ?_
  rintro e W0 ⟨h | ⟨h, hlen1⟩, rfl⟩
  · rw [h]
    go_wp2
    go_ret
    exact ⟨rfl, Below.refl _ _⟩
  rw [h]
  clear h
  have hlen' : (len0 : Int) ≤ 1024 := by omega
  have hlen1' : (len1 : Int) ≤ 1024 := by omega
  go_wp2_with fail
  refine (new_any _).mono ?_
  rintro e W1 ⟨rfl, hd, hb⟩
  have hs1 : W0.heap.size < W1.heap.size := by obtain ⟨sl, h⟩ := hd; exact lt_of_block h.blk
  go_wp2_with fail
  refine (enew_any W1).mono ?_
  rintro e W2 ⟨rfl, hr, hb2⟩
  have hB := both_new (w := W0) hd hr hb2
  have hbb := hb.trans (hb2.mono (by omega))
  clear hd hr hb hb2
  generalize W1.heap.size = c at *
  clear W1
  go_wp2
  go_loopw [9] (fun i W => ∃ (k : Nat) (D : Dsk), k ≤ len0 ∧ i = .int .i64 k ∧ D.ops ≤ k ∧ Calm D ∧ Both W W0.heap.size c D ∧ Below W0.heap.size W0 W) (fun i _ => len0 - (intOf i).toNat)
  case atStart => exact ⟨0, _, Nat.zero_le _, rfl, Nat.le_refl _, calm_new, hB, hbb⟩
  case round =>
    obtain ⟨k, D, hk, rfl, hops, hcalm, hB1, hb1⟩ := hrel
    clear hB hbb
    have HC := hid hcalm
    clear hcalm
    by_cases hlt : k < len0
    · obtain ⟨b, off, rfl, hs, hf, hl, hc, hbl⟩ := w0.at k hlt
      have hs1 := hs.below hb1
      have c0 := hs1.kind
      have c1 := hs1.i
      have c2 := hs1.s
      have c3 := hs1.keep
      have HST := hid (D.step_ops (z0 k))
      have HCS := hid (calm_step HC.out (z0 k))
      generalize z0 k = v at *
      by_cases hk2 : v.kind < 2
      · go_wp2_with fail
        refine (step_any _ W0.heap.size W0.heap.size c D v hf (by omega) (Nat.le_refl _) (by omega) hB1).mono ?_
        rintro e W3 ⟨rfl, hB3, hb3⟩
        have hb4 := hb1.trans hb3
        clear hb1 hb3 hB1 c0 c1 c2 c3 hs1
        go_wp2
        go_roundw
        case rel => exact ⟨k + 1, _, by omega, by go_num, by have := HST.out; omega, HCS.out hk2, hB3, hb4⟩
        case measure => simp [intOf]; omega
      · go_wp2
        go_roundw
        case rel => exact ⟨k + 1, D, by omega, by go_num, by omega, HC.out, hB1, hb1⟩
        case measure => simp [intOf]; omega
    · obtain ⟨hinv, sl, vw, vi, vc, cl, fk, kp0, t⟩ := hB1
      have HS := hid HC.out.sync
      have HY := hid (syn_start HC.out t.d.good)
      have hwl := t.d.good.wl
      have hbs := lt_of_block t.d.blk
      go_wp2_with fail
      refine (sync_at _ W0.heap.size W0.heap.size D sl (by omega) (Nat.le_refl _) t.d).mono ?_
      rintro e W3 ⟨rfl, k3⟩
      rw [HS.out.1]
      obtain ⟨sl3, t3⟩ := t.dcall k3
      have hb3 := hb1.trans k3.bel
      clear t hb1 k3
      go_wp2_with fail
      refine (esync_any _ W0.heap.size c D vw vi vc cl fk kp0 (by omega) (by omega) t3.r hinv).mono ?_
      rintro e W4 ⟨rfl, k4⟩
      rw [HS.out.1]
      obtain ⟨vc4, cl4, fk4, kp4, t4⟩ := t3.rcall k4
      have hb4 := hb3.trans k4.bel
      have hbs4 := lt_of_block t4.d.blk
      have hXE : D.sync.1.wr = D.wr := HS.out.2.2.1
      have HOP : D.sync.1.ops ≤ 2000 := by have := HS.out.2.2.2.2.2; omega
      generalize D.wr = X at *
      generalize D.sync.1 = E at *
      have HX := hid hXE
      clear t3 hb3 k4 hXE HS HC hlt hinv
      go_wp2_with (first | (at_make; refine wpList_make_full _ rfl _ _ 47 rfl W4.heap.size 4 i0 (.bool false) 1 Try.underlying47 hi hz0 hz1 _ _ _ _ 256 rfl rfl (by omega) (by omega) (by rw [hz2]; omega) (by unfold maxLen; omega) (by simp) ?_))
      intro W5 hown hgrow
      have hb5 : Below W4.heap.size W4 W5 := (Below.refl _ _).grown hgrow (Nat.le_refl _) (by intro k hk; simp at hk)
      have t5 := t4.below hb5
      have hb6 := hb4.trans (hb5.mono (by have := hb4.size; omega))
      simp only [toList_madeCells_one, Value.cells, Nat.mul_one] at hown
      rw [← bls_rep] at hown
      have hgs := hb4.size
      clear t4 hb4 hb5 hgrow
      generalize W4.heap.size = g at *
      go_wp2
      go_loopw [11] (fun i W => ∃ (k : Nat) (D : Dsk) (L : List Bool) (sl : Value), k ≤ len1 ∧ i = .int .i64 k ∧ D.ops ≤ 2000 + k ∧ SynSt X L D ∧ Two W W0.heap.size c D E sl vw vi vc4 cl4 fk4 kp4 ∧ W.ownsRow g 4 1 (.slice (some ⟨g, 0, none⟩) 256 256) 256 (bls L) ∧ Below W0.heap.size W0 W) (fun i _ => len1 - (intOf i).toNat)
      case atStart => exact ⟨0, E, _, sl3, Nat.zero_le _, rfl, by omega, HY.out, t5, hown, hb6⟩
      case round =>
        obtain ⟨k, D, L, sl, hk, rfl, hops, hst, t1, own1, hb1⟩ := hrel
        clear t5 hown hb6 HY
        have HST := hid hst
        clear hst
        by_cases hlt : k < len1
        · obtain ⟨b, off, rfl, hs, hf, hl, hc, hbl⟩ := w1.at k hlt
          have hcs := calm_cases HST.out.calm (z1 k).i (z1 k).s
          generalize z1 k = v at *
          obtain ⟨kd, iv, sv, kp⟩ := v
          simp only at hcs
          have hs1 := hs.below hb1
          have d1 := hs1.i
          have d2 := hs1.s
          have hb0 := hb1.drew
          have hs0 := hs.below hb0
          have c1 := hs0.i
          have c2 := hs0.s
          have t0 := t1.drew
          have own0 := own1.drew
          have hsz : sv.size ≤ 9223372036854775807 := hf.s
          simp only at c1 c2 d1 d2
          clear hs0 hs1
          rcases hcs with ⟨h1, hw⟩ | ⟨h1, h2, hw⟩ | ⟨h1, h2, h3, hw⟩ | ⟨h1, h2, h3, h4, h5, h6, h7, h8, h9⟩
          · have HW := hid hw
            clear hw
            go_wp2
            go_region_held3 (fun w' => w'.cell? ⟨b, off + k * 4 + 1, none⟩ = some (.int .i64 iv) ∧ w'.cell? ⟨b, off + k * 4 + 2, none⟩ = some (.string sv)) (first | exact ⟨c1, c2⟩ | exact ⟨c4, c5⟩) (first | (go_at_call 9; refine (write_at _ W0.heap.size W0.heap.size D sl iv sv (by omega) (Nat.le_refl _) t0.d).mono ?_; rintro e W3 ⟨rfl, k3⟩; have o3 := t0.down k3 own0; obtain ⟨sl3', t3⟩ := t0.dcall k3; have hb3 := hb0.trans k3.bel; rw [HW.out] at t3 ⊢; have hs3 := hs.below hb3; have c4 := hs3.i; have c5 := hs3.s))
            all_goals
              clear c1 c2 t0 hb0 own0 t1 hb1 own1 k3 hs3 d1 d2
              go_wp2
              go_roundw
              case rel => exact ⟨k + 1, D, L, _, by omega, by go_num, by omega, HST.out, t3, o3, hb3⟩
              case measure => simp [intOf]; omega
          · have HW := hid hw
            clear hw
            go_wp2
            go_region_held3 (fun w' => w'.cell? ⟨b, off + k * 4 + 1, none⟩ = some (.int .i64 iv) ∧ w'.cell? ⟨b, off + k * 4 + 2, none⟩ = some (.string sv)) (first | exact ⟨c1, c2⟩ | exact ⟨c4, c5⟩) (first | (go_at_call 9; refine (write_at _ W0.heap.size W0.heap.size D sl iv sv (by omega) (Nat.le_refl _) t0.d).mono ?_; rintro e W3 ⟨rfl, k3⟩; have o3 := t0.down k3 own0; obtain ⟨sl3', t3⟩ := t0.dcall k3; have hb3 := hb0.trans k3.bel; rw [HW.out] at t3 ⊢; have hs3 := hs.below hb3; have c4 := hs3.i; have c5 := hs3.s))
            all_goals
              clear c1 c2 t0 hb0 own0 t1 hb1 own1 k3 hs3 d1 d2
              go_wp2
              go_roundw
              case rel => exact ⟨k + 1, D, L, _, by omega, by go_num, by omega, HST.out, t3, o3, hb3⟩
              case measure => simp [intOf]; omega
          · have HW := hid hw
            clear hw
            go_wp2
            go_region_held3 (fun w' => w'.cell? ⟨b, off + k * 4 + 1, none⟩ = some (.int .i64 iv) ∧ w'.cell? ⟨b, off + k * 4 + 2, none⟩ = some (.string sv)) (first | exact ⟨c1, c2⟩ | exact ⟨c4, c5⟩) (first | (go_at_call 9; refine (write_at _ W0.heap.size W0.heap.size D sl iv sv (by omega) (Nat.le_refl _) t0.d).mono ?_; rintro e W3 ⟨rfl, k3⟩; have o3 := t0.down k3 own0; obtain ⟨sl3', t3⟩ := t0.dcall k3; have hb3 := hb0.trans k3.bel; rw [HW.out] at t3 ⊢; have hs3 := hs.below hb3; have c4 := hs3.i; have c5 := hs3.s))
            all_goals
              clear c1 c2 t0 hb0 own0 t1 hb1 own1 k3 hs3 d1 d2
              go_wp2
              go_roundw
              case rel => exact ⟨k + 1, D, L, _, by omega, by go_num, by omega, HST.out, t3, o3, hb3⟩
              case measure => simp [intOf]; omega
          · have HG := hid (syn_step HST.out iv.toNat (by omega) sv h5 h6 h7 h8)
            have HE := hid h4
            have HO := hid h9
            clear h4 h5 h6 h7 h8 h9
            go_wp2
            go_region_held3 (fun w' => w'.cell? ⟨b, off + k * 4 + 1, none⟩ = some (.int .i64 iv) ∧ w'.cell? ⟨b, off + k * 4 + 2, none⟩ = some (.string sv)) (first | exact ⟨c1, c2⟩ | exact ⟨c4, c5⟩) (first | (go_at_call 9; refine (write_at _ W0.heap.size W0.heap.size D sl iv sv (by omega) (Nat.le_refl _) t0.d).mono ?_; rintro e W3 ⟨rfl, k3⟩; have o3 := t0.down k3 own0; obtain ⟨sl3', t3⟩ := t0.dcall k3; have hb3 := hb0.trans k3.bel; rw [HE.out]; have hs3 := hs.below hb3; have c4 := hs3.i; have c5 := hs3.s))
            all_goals
              generalize (D.write iv sv).1 = D3 at *
              obtain ⟨n, rfl⟩ : ∃ n : Nat, iv = n := ⟨iv.toNat, by omega⟩
              clear c1 c2 t0 hb0 own0 t1 hb1 own1 k3 hs3 d1 d2
              have hn : n < 256 := by omega
              simp only [Int.toNat_natCast] at HG
              have hxl := HST.out.len
              have st := bls_at o3 n (by omega)
              have fr := o3.frozenAt n
              obtain ⟨cg, fz, hgb⟩ := own_block o3
              have t4 : Two (W3.setCell ⟨g, n, none⟩ (.bool true)) W0.heap.size c D3 E sl3' vw vi vc4 cl4 fk4 kp4 := ⟨t3.d.other hgb (by decide) (by decide) _, t3.r.other hgb (by decide) (by decide) (by decide) _, t3.ne⟩
              have o4 := o3.stored n (.bool true)
              rw [← bls_set] at o4
              have o5 := o4.1
              have hb4 := hb3.setCell (p := ⟨g, n, none⟩) (by show W0.heap.size ≤ g; omega) (.bool true)
              clear o4 hxl
              generalize L.getD n false = lb at *
              go_wp2
              go_roundw
              case rel => exact ⟨k + 1, D3, L.set n true, _, by omega, by go_num, by have := HO.out; omega, HG.out, t4, o5, hb4⟩
              case measure => simp [intOf]; omega
        · have HCR := hid (syn_crash HST.out keep)
          have HDD := hid (HST.out.calm.crash keep).2
          have hops3 : (D.crash keep).ops < 4611686018427387904 := by
            have : (D.crash keep).ops = D.ops := by unfold Dsk.crash; split <;> simp [Dsk.lose, Dsk.forget]
            omega
          go_wp2_with fail
          refine (crash_at _ W0.heap.size W0.heap.size D sl keep hkeep (Nat.le_refl _) t1.d).mono ?_
          rintro e W6 ⟨rfl, k6⟩
          have o6 := t1.down k6 own1
          obtain ⟨sl6, t6⟩ := t1.dcall k6
          have hb6 := hb1.trans k6.bel
          generalize D.crash keep = D6 at *
          clear t1 own1 hb1 k6
          have hxl := HST.out.len
          obtain ⟨gi, ci, rfl, hi1, hi2⟩ := own_pos t6.r.is (by omega)
          have r1 := t6.r.cell 1 _ rfl
          have hEX := HX.out
          have ois := t6.r.is
          rw [hEX] at ois
          clear hEX hlt
          have hX2 : X.length = 256 := by have := t6.r.good.wl; rw [HX.out] at this; exact this
          go_wp2
          go_loop [13] (fun i => ∃ n : Nat, n ≤ 256 ∧ i = .int .i64 n) (fun i => 256 - (intOf i).toNat)
          case atStart => exact ⟨0, Nat.zero_le _, rfl⟩
          case round =>
            obtain ⟨n, hn, rfl⟩ := hrel
            by_cases hn2 : n < 256
            · have st := bls_at o6 n (by omega)
              have s1 := strs_at ois n (by omega)
              have HR := hid (HCR.out n hn2)
              cases hL : L.getD n false
              · rw [hL] at st
                have HR2 := hid (HR.out hL)
                generalize X.getD n ByteArray.empty = sx at *
                clear HR hL
                go_wp2_with fail
                refine (read_any _ _ D6 n ⟨_, t6.d⟩).mono ?_
                rintro e W7 ⟨rfl, rfl⟩
                rw [HR2.out]
                generalize readE n = er
                go_wp2
                go_round
                case rel => exact ⟨n + 1, by omega, by go_num⟩
                case measure => simp [intOf]; omega
              · rw [hL] at st
                generalize X.getD n ByteArray.empty = sx at *
                clear HR hL
                go_wp2_with fail
                refine (read_any _ _ D6 n ⟨_, t6.d⟩).mono ?_
                rintro e W7 ⟨rfl, rfl⟩
                generalize readE n = er
                generalize D6.read n = rd
                go_wp2
                go_round
                case rel => exact ⟨n + 1, by omega, by go_num⟩
                case measure => simp [intOf]; omega
            · have HEN := hid (dead_ends HDD.out)
              go_wp2_with fail
              refine (dead_any _ _ D6 ⟨_, t6.d⟩).mono ?_
              rintro e W7 ⟨rfl, rfl⟩
              rw [HDD.out]
              go_wp2_with fail
              refine (write_lit _ W0.heap.size W0.heap.size D6 sl6 ⟨#[]⟩ hops3 (Nat.le_refl _) t6.d).mono ?_
              rintro e W8 ⟨rfl, k8⟩
              rw [HEN.out.1] at k8 ⊢
              obtain ⟨sl8, t8⟩ := t6.dcall k8
              have hb8 := hb6.trans k8.bel
              clear t6 hb6 k8 o6 r1 ois
              go_wp2_with fail
              refine (sync_at _ W0.heap.size W0.heap.size D6 sl8 hops3 (Nat.le_refl _) t8.d).mono ?_
              rintro e W9 ⟨rfl, k9⟩
              rw [HEN.out.2]
              have hb9 := hb8.trans k9.bel
              go_wp2
              go_ret
              exact ⟨rfl, hb9⟩
theorem synced_fits (a0 : Option Addr) (len0 cap0 : Nat) (z0 : Nat → Stp) (a1 : Option Addr) (len1 cap1 : Nat) (z1 : Nat → Stp) (q : Int) (w : World) (w0 : IsSteps w a0 len0 cap0 z0) (w1 : IsSteps w a1 len1 cap1 z1) (hq : (Lit.int .u64 q).wf = true) :
    Calls Try.prog 6 #[.slice a0 len0 cap0, .slice a1 len1 cap1, .int .u64 q] w fun e w' => e = .returned (.bool true) ∧ Below w.heap.size w w' := by
  have hb := bounds_u64 hq
  obtain ⟨keep, rfl⟩ : ∃ k : Nat, q = k := ⟨q.toNat, by omega⟩
  exact synced_any a0 len0 cap0 z0 a1 len1 cap1 z1 keep w w0 w1 (by omega)
end Go.Proofs.Ytchibjdhdbkdhaa
