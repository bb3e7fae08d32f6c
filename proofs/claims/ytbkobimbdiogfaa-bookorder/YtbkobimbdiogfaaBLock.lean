/- book: Add of a Lock. -/
import Derived.Test.YtbkobimbdiogfaaBMay
import Derived.Deep.RegionWith
namespace Go.Proofs.Ytbkobimbdiogfaa
open Go.RowKit Go.MapKept
open Go.ChangeMaps (setBlock heap_setBlock_same heap_setBlock_other)
set_option linter.unusedVariables false
set_option maxRecDepth 100000
set_option linter.unusedSimpArgs false

theorem info_account : (Try.prog.info? 76).map (·.size) = some 3 := by kernel_rfl
def lockP (p : Ps) (c : Int) : Ps := { p with locked := p.locked + c, asks := p.asks + 1 }
theorem lockP_sane {p : Ps} {c : Int} (h : Sane p) (hq : p.asks < 24) (hc : 1 ≤ c ∧ c ≤ 1000000000) : Sane (lockP p c) := by
  obtain ⟨h1, h2, h3, h4, h5, h6, h7⟩ := h
  exact ⟨by simp only [lockP]; omega, by simp only [lockP]; omega, by simp only [lockP]; omega, h4, h5, h6, h7⟩
theorem setBlock_drew (W : World) (b : Nat) (o : Obj) : setBlock W.drew b o = (setBlock W b o).drew := rfl
theorem MapAt.drew {k : TypeId} {w : World} {b : Nat} {es : Array MapEntry} {clock : Nat} (h : MapAt k w b es clock) : MapAt k w.drew b es clock := ⟨h.blk, h.stamped, h.keys⟩
set_option maxHeartbeats 3200000 in
theorem add_lock {O : Nat → Prop} {w : World} {v : Value} {N : List ByteArray} {S : ByteArray → Ps} (h : Bk O w v N S) (who : ByteArray) (hw : who.size ≤ 1099511627776) (c s : Int) (v3 v4 v5 v6 v7 v8 v9 v10 v11 v12 v13 v14 v15 v16 v17 : Value) (hq : (S who).asks < 24) (hc : 1 ≤ c ∧ c ≤ 1000000000) :
    Calls Try.prog 14 #[v, .string who, .agg #[.int .i64 1, .int .i64 c, .int .i64 s, v3, v4, v5, v6, v7, v8, v9, v10, v11, v12, v13, v14, v15, v16, v17]] w fun e w' => e = .returned (.int .i64 0) ∧ Kx O w w' ∧ Bk O w' v (addN N who) (upd S who (lockP (S who) c)) := by
  have b1 := (Below.refl w.heap.size w).alloc (Nat.le_refl _) (Obj.cells #[.int .i64 1, .int .i64 c, .int .i64 s, v3, v4, v5, v6, v7, v8, v9, v10, v11, v12, v13, v14, v15, v16, v17] 28)
  have hM := may_lock (h.below b1) who hw c s v3 v4 v5 v6 v7 v8 v9 v10 v11 v12 v13 v14 v15 v16 v17 hq
  have hE : lockE c = 0 := if_neg (by omega)
  rw [hE] at hM
  have hl := heap_alloc_last w (Obj.cells #[.int .i64 1, .int .i64 c, .int .i64 s, v3, v4, v5, v6, v7, v8, v9, v10, v11, v12, v13, v14, v15, v16, v17] 28)
  have a0 := blk_cell hl 0 (.int .i64 1) rfl
  have a1 := blk_cell hl 1 (.int .i64 c) rfl
  have a2 := blk_cell hl 2 (.int .i64 s) rfl
  have a3 := blk_cell hl 3 (v3) rfl
  have a4 := blk_cell hl 4 (v4) rfl
  have a5 := blk_cell hl 5 (v5) rfl
  have a6 := blk_cell hl 6 (v6) rfl
  have a7 := blk_cell hl 7 (v7) rfl
  have a8 := blk_cell hl 8 (v8) rfl
  have a9 := blk_cell hl 9 (v9) rfl
  have a10 := blk_cell hl 10 (v10) rfl
  have a11 := blk_cell hl 11 (v11) rfl
  have a12 := blk_cell hl 12 (v12) rfl
  have a13 := blk_cell hl 13 (v13) rfl
  have a14 := blk_cell hl 14 (v14) rfl
  have a15 := blk_cell hl 15 (v15) rfl
  have a16 := blk_cell hl 16 (v16) rfl
  have a17 := blk_cell hl 17 (v17) rfl
  have hsane := lockP_sane (h.sane who) hq hc
  have hs0 := h.sane who
  obtain ⟨C, bb, lb, ab, el, ea, cl, ca, rfl, hb0⟩ := h
  go_enter Try.func14, Try.ntmps14
  go_wp2_with fail
  have hl' := hl
  have hn : w.heap.size < (w.alloc (Obj.cells #[.int .i64 1, .int .i64 c, .int .i64 s, v3, v4, v5, v6, v7, v8, v9, v10, v11, v12, v13, v14, v15, v16, v17] 28)).heap.size := by simp
  generalize w.alloc (Obj.cells #[.int .i64 1, .int .i64 c, .int .i64 s, v3, v4, v5, v6, v7, v8, v9, v10, v11, v12, v13, v14, v15, v16, v17] 28) = W1 at *
  refine hM.mono ?_
  rintro e w2 ⟨rfl, b2⟩
  have B2 := chain2 b1 b2
  clear hM a0 a1 a2 a3 a4 a5 a6 a7 a8 a9 a10 a11 a12 a13 a14 a15 a16 a17
  go_wp2_with fail
  refine (sclone_any who w2 hw).mono ?_
  rintro e w3 ⟨rfl, b3⟩
  have B3 := chain2 B2 b3
  have hb := hb0.below B3
  have hl3 := blk_below hl' (chain2 b2 b3)
  have a0 := blk_cell hl3 0 (.int .i64 1) rfl
  have a1 := blk_cell hl3 1 (.int .i64 c) rfl
  have hnw : w.heap.size < w3.heap.size := lt_of_block hl3
  generalize hnn : w.heap.size = n at *
  have HN := hid hnn
  clear hnn b1 b2 b3 B2 hl hl' hl3 hE hn
  obtain ⟨sv, ho, hL⟩ := hb.account who hw
  replace hL := hL w3 rfl
  obtain ⟨sa, sc, rfl⟩ := own_slice ho.1
  have c1 := hb.cell1
  have hbz : bb < w3.heap.size := hb.lt _ hb.ob
  have w1 : wrap64 ((S who).asks + 1) = (S who).asks + 1 := by obtain ⟨h1, _⟩ := hs0; unfold wrap64; omega
  have w2 : wrap64 ((S who).locked + c) = (S who).locked + c := by obtain ⟨h1, h2, _⟩ := hs0; unfold wrap64; omega
  have HB := hid hb
  have HO := hid ho
  have HS := hid hsane
  have hnb : ¬ w3.heap.size = n := by omega
  have hnb2 : ¬ w3.heap.size = bb := by omega
  clear hb ho hsane hs0 hb0 hq hc
  have HW := hid hw
  clear hw
  obtain ⟨A, hA⟩ : ∃ A, Hid (A = (S who).asks) := ⟨_, hid rfl⟩
  obtain ⟨L, hLk⟩ : ∃ L, Hid (L = (S who).locked) := ⟨_, hid rfl⟩
  obtain ⟨sn, hsn⟩ : ∃ sn, Hid (sn = (S who).seqs.length) := ⟨_, hid rfl⟩
  rw [← hA.out, ← hLk.out, ← hsn.out] at hL
  rw [← hA.out] at w1
  rw [← hLk.out] at w2
  go_wp2_with (refine wpList_store_new rfl 76 _ _ rfl _ _ _ rfl (by simp) rfl 3 info_account (by rfl) (by rfl) (by simp [Value.oneCell']) ?_)
  have b4 := (Below.refl w3.heap.size w3).alloc (Nat.le_refl _) (Obj.cells #[.int .i64 (L + c), .int .i64 (A + 1), .slice sa sn sc] 76)
  have hb4 := HB.out.below b4
  have hn4 := heap_alloc_last w3 (Obj.cells #[.int .i64 (L + c), .int .i64 (A + 1), .slice sa sn sc] 76)
  generalize w3.alloc (Obj.cells #[.int .i64 (L + c), .int .i64 (A + 1), .slice sa sn sc] 76) = W4 at *
  obtain ⟨ea', ka', hrun, hm, hput⟩ := hb4.accs.drew.put lawStr Try.underlying71 (keyOf_name who (by have := HW.out; unfold maxLen; omega)) (.agg #[.int .i64 (L + c), .int .i64 (A + 1), .slice sa sn sc])
  have d0 := blk_cell hn4 0 _ rfl
  have d1 := blk_cell hn4 1 _ rfl
  have d2 := blk_cell hn4 2 _ rfl
  have c1 := hb4.cell1
  have HB4 := hid hb4
  have HM := hid hm
  have HP := hid hput
  clear hb4 hm hput hn4 hL a0 a1
  go_region
  go_wp2
  go_ret
  have hn := HN.out
  subst hn
  have hb4 := HB4.out
  have kd : Kx (fun i => i = ab) W4 W4.drew := Kx.of_below (below_drew1 W4)
  have k5 : Kx (fun i => i = ab) W4 (setBlock W4.drew ab (.map ea' ka')) := kx_setBlock kd (show W4.drew.heap[ab]? = _ from hb4.accs.blk) rfl
  have k3 : Kx (fun i => i = ab) w3 (setBlock W4.drew ab (.map ea' ka')) := (Kx.of_below b4).trans k5
  have k6 : Kx (May1 O C who) W4 (setBlock W4.drew ab (.map ea' ka')) := k5.mono (fun i e => by subst e; exact ⟨hb4.oa, Or.inr (Or.inl hb4.cac)⟩)
  have hla : lb ≠ ab := fun e => by have := hb4.cl; rw [e, hb4.cac] at this; cases this
  have ho := own_kx HO.out k3 (fun i _ hc e => by subst e; rw [hb4.cac] at hc; cases hc)
  have hfin := hb4.after who HW.out (lockP (S who) c) HS.out (.slice sa sn sc) (fun i hi => hi) (fun i hi => Nat.lt_of_lt_of_le (hb4.lt i hi) k6.size) (fun _ _ => rfl) k6
    (hb4.live.to (k5.block lb (hb4.lt lb hb4.ol) hla)) HM.out (by have := HP.out; rw [hLk.out, hA.out] at this; exact this) (by rw [hsn.out]; exact ho)
    (fun x hx => Or.inl ⟨hx, fun _ _ => rfl⟩) (fun s o h => hb4.lives who s o h) (fun x hx _ => hx)
  exact ⟨rfl, (Kx.of_below (chain2 B3 b4)).trans (k6.mono (fun _ h => h.1)), C, bb, lb, ab, el, ea', cl, ka', rfl, hfin⟩
end Go.Proofs.Ytbkobimbdiogfaa
