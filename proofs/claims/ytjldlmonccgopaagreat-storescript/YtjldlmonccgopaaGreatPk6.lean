/- DOps, DCalls, DNew. -/
import Derived.Test.YtjldlmonccgopaaGreatPk5
import Derived.Maps.AppendAt
/- The disk: begin, Write, Sync, Read, Ops, Dead, Cut, Fail, Crash, Power, New. -/
namespace Go.Proofs.YtjldlmonccgopaaGreat
open Go.RowKit
set_option linter.unusedVariables false
set_option maxRecDepth 100000
set_option linter.unusedSimpArgs false

set_option maxHeartbeats 1000000 in
theorem begin_any (w : World) (S : Nat → Prop) (B b : Nat) (D : Dsk) (sl : Value) (ho : D.ops < 4611686018427387904) (hS : S b) (hB : B ≤ b) (h : DiskAt w b D sl) :
    Calls Tryz.prog 42 #[.pointer (some ⟨b, 0, none⟩)] w fun e w' => e = .returned (.int .i64 D.begin.2) ∧ (∃ sl', DiskAt w' b D.begin.1 sl' ∧ (sl' = sl ∨ sl' = .slice none 0 0)) ∧ Kf S B w w' := by
  have hg := h.good
  have hlt : B ≤ w.heap.size := by have := lt_of_block h.blk; omega
  have c1 := cell_at h.blk 513 _ (dl_tail h.good.wl h.good.ll sl 1)
  have c2 := cell_at h.blk 514 _ (dl_tail h.good.wl h.good.ll sl 2)
  have c3 := cell_at h.blk 515 _ (dl_tail h.good.wl h.good.ll sl 3)
  have c4 := cell_at h.blk 516 _ (dl_tail h.good.wl h.good.ll sl 4)
  have c5 := cell_at h.blk 517 _ (dl_tail h.good.wl h.good.ll sl 5)
  have c6 := cell_at h.blk 518 _ (dl_tail h.good.wl h.good.ll sl 6)
  have c7 := cell_at h.blk 519 _ (dl_tail h.good.wl h.good.ll sl 7)
  have c8 := cell_at h.blk 520 _ (dl_tail h.good.wl h.good.ll sl 8)
  have f1 := free_at h.blk
  cases hd : D.dead
  · rw [hd] at c2
    cases hf : D.fl
    · rw [hf] at c3
      go_enter Tryz.func42, Tryz.ntmps42
      go_wp2_with fail
      refine (due_any w D.cg D.cl).mono ?_
      rintro e w1 ⟨rfl, hb1⟩
      have h1 := h.below hb1
      have k1 : Kf S B w w1 := Kf.of_below hb1 hlt
      cases hcut : (D.cg && D.cl == 0)
      · have g8 := (hb1.cell (p := ⟨b, 518, none⟩) (lt_of_block h.blk)).trans c6
        have g9 := (hb1.cell (p := ⟨b, 519, none⟩) (lt_of_block h.blk)).trans c7
        have hlt1 : B ≤ w1.heap.size := by have := hb1.size; omega
        clear c1 c2 c3 c4 c5 c6 c7 c8 f1
        go_wp2_with fail
        refine (due_any w1 D.fg D.fk).mono ?_
        rintro e w2 ⟨rfl, hb2⟩
        have h2 := h1.below hb2
        have k2 := k1.below hlt1 hb2
        have hlt2 : B ≤ w2.heap.size := by have := hb2.size; omega
        clear h h1 g8 g9 hb1 k1
        have c1 := cell_at h2.blk 513 _ (dl_tail h2.good.wl h2.good.ll sl 1)
        have c3 := cell_at h2.blk 515 _ (dl_tail h2.good.wl h2.good.ll sl 3)
        have c4 := cell_at h2.blk 516 _ (dl_tail h2.good.wl h2.good.ll sl 4)
        have c5 := cell_at h2.blk 517 _ (dl_tail h2.good.wl h2.good.ll sl 5)
        have f1 := free_at h2.blk
        cases hfail : (D.fg && D.fk == 0)
        · have E : D.begin = ({ D with ops := D.ops + 1, cl := D.cl - 1, fk := D.fk - 1 }, 0) := by simp [Dsk.begin, hd, hf, hcut, hfail]
          have G := h2.good.begin
          rw [E] at G
          have HE := hid E
          clear E
          have hc0 : D.cg = true → D.cl ≠ 0 := by intro e1 e2; simp [e1, e2] at hcut
          have hf0 : D.fg = true → D.fk ≠ 0 := by intro e1 e2; simp [e1, e2] at hfail
          have d3 := h2.da.set 1 (.int .i64 ((D.ops + 1 : Nat) : Int))
          have k3 := k2.set (k := 513) hS hB (.int .i64 ((D.ops + 1 : Nat) : Int))
          rw [Int.natCast_add, Int.cast_ofNat_Int] at d3 k3
          clear hcut hfail
          go_wp2_with fail
          generalize w2.setCell ⟨b, 513, none⟩ (.int .i64 ((D.ops : Int) + 1)) = w3 at *
          clear c1 c3 c4 c5 f1 h2 k2
          refine (less_any w3 D.cg D.cl hg.c0 hc0 hg.cl).mono ?_
          rintro e w4 ⟨rfl, hb4⟩
          have hlt3 : B ≤ w3.heap.size := by have := k3.size; omega
          have d4 := d3.below hb4
          have k4 := k3.below hlt3 hb4
          have hlt4 : B ≤ w4.heap.size := by have := hb4.size; omega
          clear d3 k3 hb4
          have c4 := d4.cell 4 _ rfl
          have c5 := d4.cell 5 _ rfl
          have c6 := d4.cell 6 _ rfl
          have c7 := d4.cell 7 _ rfl
          have f1 := d4.free
          have d5 := (d4.set 4 (.bool D.cg)).set 5 (.int .i64 ((D.cl - 1 : Nat) : Int))
          have k5 := (k4.set (k := 516) hS hB (.bool D.cg)).set (k := 517) hS hB (.int .i64 ((D.cl - 1 : Nat) : Int))
          generalize D.cl - 1 = C at *
          go_wp2_with fail
          generalize (w4.setCell ⟨b, 516, none⟩ (.bool D.cg)).setCell ⟨b, 517, none⟩ (.int .i64 (C : Int)) = w5 at *
          clear c4 c5 c6 c7 f1 d4 k4
          refine (less_any w5 D.fg D.fk hg.f0 hf0 hg.fk).mono ?_
          rintro e w6 ⟨rfl, hb6⟩
          have hlt5 : B ≤ w5.heap.size := by have := k5.size; omega
          have d6 := d5.below hb6
          have k6 := k5.below hlt5 hb6
          clear d5 k5 hb6
          have c6 := d6.cell 6 _ rfl
          have c7 := d6.cell 7 _ rfl
          have f1 := d6.free
          have d7 := (d6.set 6 (.bool D.fg)).set 7 (.int .i64 ((D.fk - 1 : Nat) : Int))
          have k7 := (k6.set (k := 518) hS hB (.bool D.fg)).set (k := 519) hS hB (.int .i64 ((D.fk - 1 : Nat) : Int))
          generalize D.fk - 1 = C' at *
          go_wp2
          go_ret
          rw [HE.out]
          exact ⟨rfl, ⟨sl, d7.disk (D := { D with ops := D.ops + 1, cl := C, fk := C' }) G, Or.inl rfl⟩, k7⟩
        · have E : D.begin = ({ D with fl := true }, 42) := by simp [Dsk.begin, hd, hf, hcut, hfail]
          have G := h2.good.begin
          rw [E] at G
          have HE := hid E
          clear E
          go_wp2
          go_ret
          rw [HE.out]
          exact ⟨rfl, ⟨sl, (h2.da.set 3 (.bool true)).disk (D := { D with fl := true }) G, Or.inl rfl⟩, k2.set hS hB _⟩
      · have g8 := (hb1.cell (p := ⟨b, 520, none⟩) (lt_of_block h.blk)).trans c8
        clear c1 c2 c3 c4 c5 c6 c7 c8 f1
        go_wp2_with fail
        refine (lose_any w1 S B b D sl D.keep h.good.kp hS hB h1).mono ?_
        rintro e w2 ⟨rfl, h2, k2⟩
        go_wp2
        go_ret
        rw [show D.begin = (D.lose D.keep, 43) by simp [Dsk.begin, hd, hf, hcut]]
        exact ⟨rfl, ⟨_, h2, Or.inr rfl⟩, k1.trans k2⟩
    · rw [hf] at c3
      go_enter Tryz.func42, Tryz.ntmps42
      go_wp2
      go_ret
      rw [show D.begin = (D, 42) by simp [Dsk.begin, hd, hf]]
      exact ⟨rfl, ⟨sl, h, Or.inl rfl⟩, Kf.refl _ _ _⟩
  · rw [hd] at c2
    go_enter Tryz.func42, Tryz.ntmps42
    go_wp2
    go_ret
    rw [show D.begin = (D, 43) by simp [Dsk.begin, hd]]
    exact ⟨rfl, ⟨sl, h, Or.inl rfl⟩, Kf.refl _ _ _⟩
end Go.Proofs.YtjldlmonccgopaaGreat
/- The disk: Write, Sync, Read, Ops, Dead, Cut, Fail, Crash, Power, New. -/
namespace Go.Proofs.YtjldlmonccgopaaGreat
open Go.RowKit
set_option linter.unusedVariables false
set_option maxRecDepth 100000
set_option linter.unusedSimpArgs false

theorem Tryz.info3 : (Tryz.prog.info? 3).map (fun i => (i.zero, i.size, i.bytes)) = some (some (.int .i64 0), 1, 8) := by kernel_rfl
theorem ints_app (L : List Nat) (x : Nat) : ints (L ++ [x]) = ints L ++ [.int .i64 (x : Int)] := by simp [ints]
theorem not_both {i : Int} (h : ¬ (i < 0 ∨ 256 ≤ i)) : decide (0 ≤ i ∧ i < 256) = true := decide_eq_true (by omega)
theorem own_slice {w : World} {base : Nat} {e : TypeId} {v : Value} {n : Nat} {xs : List Value} (h : w.ownsRow base e 1 v n xs) : ∃ sa sc, v = .slice sa n sc := by
  rcases own_form h with ⟨rfl, rfl⟩ | ⟨g, cap, rfl, _⟩
  · exact ⟨_, _, rfl⟩
  · exact ⟨_, _, rfl⟩
theorem own_ne {w : World} {base : Nat} {e t : TypeId} {v : Value} {n b : Nat} {xs : List Value} {c : Array Value} {fz : Nat × Nat} (h : w.ownsRow base e 1 v n xs) (hb : w.heap[b]? = some (.cells c t fz)) (hne : e ≠ t) : v.ownBlock ≠ some b := by
  rcases h.2 with ⟨rfl, _⟩ | ⟨g, cap, cur, rfl, _, hh, _⟩
  · simp [Value.ownBlock]
  · simp only [Value.ownBlock, ne_eq, Option.some.injEq]
    intro e1
    rw [e1, hb] at hh
    simp only [Option.some.injEq, Obj.cells.injEq] at hh
    exact hne hh.2.1.symm
theorem DA.alloc {w : World} {b : Nat} {W L : List ByteArray} {T : List Value} {sl : Value} {ca : List Nat} (h : DA w b W L T sl ca) (o : Obj) : DA (w.alloc o) b W L T sl ca := h.below ((Below.refl _ _).alloc (Nat.le_refl _) o)
set_option maxHeartbeats 2000000 in
/-- A store of a sector that may be. -/
theorem write_in (w : World) (B b : Nat) (D : Dsk) (sl0 : Value) (i : Nat) (s : ByteArray) (ho : D.ops < 4611686018427387904) (hB : B ≤ b) (hi : i < 256) (hs : s.size ≤ 256) (h : DiskAt w b D sl0) :
    Calls Tryz.prog 19 #[.pointer (some ⟨b, 0, none⟩), .int .i64 (i : Int), .string s] w fun e w' => e = .returned (.int .i64 (D.write i s).2) ∧ DNext B b sl0 (D.write i s).1 w w' := by
  have hE : D.write i s = if D.begin.2 = 0 then (D.begin.1.put i s, 0) else D.begin := by
    unfold Dsk.write
    rw [if_neg (by omega), if_neg (by omega)]; simp
  have HE := hid hE
  clear hE
  have hsec : decide (0 ≤ (i : Int) ∧ (i : Int) < 256) = true := decide_eq_true (by omega)
  have hs' : ¬ (256 : Int) < (s.size : Int) := by omega
  obtain ⟨i0, hi0, hz0, hz1, hz2⟩ := info_parts Tryz.info3
  go_enter Tryz.func19, Tryz.ntmps19
  go_wp2_with fail
  refine (sector_any w i).mono ?_
  rintro e w' ⟨rfl, rfl⟩
  rw [hsec]
  clear hsec
  go_wp2_with fail
  refine (begin_any w' (Sd b sl0) B b D sl0 ho (Or.inl rfl) hB h).mono ?_
  rintro e w1 ⟨rfl, ⟨sl, h1, hsl⟩, k1⟩
  have hsz := k1.size
  have hso : ∀ g, sl.ownBlock = some g → sl0.ownBlock = some g := by
    rcases hsl with rfl | rfl
    · exact fun g hg => hg
    · intro g hg; simp [Value.ownBlock] at hg
  clear hsl
  generalize D.begin = DB at *
  obtain ⟨D1, e1⟩ := DB
  simp only at h1 HE ⊢
  by_cases he : e1 = 0
  · subst he
    have c1 := cell_at h1.blk 512 _ (dl_tail h1.good.wl h1.good.ll sl 0)
    have hlt : b < w1.heap.size := lt_of_block h1.blk
    obtain ⟨sa, sc, rfl⟩ := own_slice h1.own
    go_wp2_with fail
    refine (contains_any w1 b _ D1.ca i h1.own).mono ?_
    rintro e w2 ⟨rfl, rfl⟩
    have G := h1.good.put i hi s
    have hca := h1.good.small
    have c2 := cell_at h1.blk i _ (dl_wr h1.good.wl _ i hi)
    have f1 := free_at h1.blk
    by_cases hm : i ∈ D1.ca
    · rw [decide_eq_true hm]
      have HM := hid hm
      clear hm
      have d1 := h1.set (k := i) (dset_wr h1.good.wl _ i hi s) rfl { h1.good with wl := by simp [h1.good.wl] }
      have k2 := k1.set (k := i) (Or.inl rfl) hB (.string s)
      have d2 : DNext B b sl0 (D1.put i s) w' (w2.setCell ⟨b, i, none⟩ (.string s)) := ⟨_, by
        rw [show (D1.put i s) = { D1 with wr := D1.wr.set i s } by simp [Dsk.put, HM.out]]
        exact d1, fun g hg => Or.inl (hso g hg), k2⟩
      go_wp2
      go_ret
      rw [HE.out]
      exact ⟨rfl, d2⟩
    · rw [decide_eq_false hm]
      have HM := hid hm
      clear hm
      have o2 := h1.own.alloc (.cells #[.int .i64 (i : Int)] 3)
      have b2 := h1.da.alloc (.cells #[.int .i64 (i : Int)] 3)
      have k2 := k1.alloc (by omega) (.cells #[.int .i64 (i : Int)] 3)
      go_wp2_with (at_builtin; refine wpList_append_own_at _ rfl _ _ 53 rfl b 3 i0 (.int .i64 0) 1 8 Tryz.underlying53 hi0 hz0 hz1 hz2 rfl (by decide) _ _ _ rfl o2 ⟨w2.heap.size, 0, none⟩ 1 1 [.int .i64 (i : Int)] rfl rfl (by intro j u hu; match j, hu with | 0, hu => simp at hu; subst hu; simp [Addr.add]) (by intro u hu; simp at hu; subst hu; rfl) (by unfold maxLen; omega) (by omega) (by simp; omega) ?_)
      intro v' w3 hown3 hgrow hnil hwhere
      have hne := h1.ne
      have e3 : w3.heap[b]? = some (.cells (dlist D1 (.slice sa D1.ca.length sc)).toArray 57 (0, 0)) := (hgrow.block b (by simp; omega) (fun e => hne e.symm)).trans b2.blk
      rw [show ints D1.ca ++ [.int .i64 (i : Int)] = ints (D1.ca ++ [i]) from (ints_app _ _).symm] at hown3
      have hne3 : v'.ownBlock ≠ some b := own_ne hown3 e3 (by decide)
      have k3 : Kf (Sd b sl0) B w' w3 := k2.grown hgrow (by simp; omega) (fun q hq => Nat.le_trans hB (h1.own.lt q hq).1) (fun q hq => Or.inl (Or.inr (hso q hq)))
      have hnew : ∀ g, v'.ownBlock = some g → sl0.ownBlock = some g ∨ w'.heap.size ≤ g := by
        intro g hg
        rcases hwhere with e | e
        · exact Or.inl (hso g (by rw [← e]; exact hg))
        · right; rw [e] at hg; simp at hg; omega
      have d3 : DiskAt (w3.setCell ⟨b, 512, none⟩ v') b { D1 with ca := D1.ca ++ [i] } v' :=
        ⟨by rw [set_at e3]; exact congrArg (fun l => some (Obj.cells (List.toArray l) 57 (0, 0))) (dset_tail h1.good.wl h1.good.ll _ 0 v'), by rw [List.length_append]; exact ownsRow_setCell_other hown3 hne3 v', { G with wl := h1.good.wl, nd := by have := G.nd; simpa [Dsk.put, HM.out] using this, lt := by have := G.lt; simpa [Dsk.put, HM.out] using this }⟩
      have k4 := k3.set (k := 512) (Or.inl rfl) hB v'
      have d4 := d3.set (k := i) (dset_wr d3.good.wl _ i hi s) rfl { d3.good with wl := by simp [d3.good.wl] }
      have k5 := k4.set (k := i) (Or.inl rfl) hB (.string s)
      have d5 : DNext B b sl0 (D1.put i s) w' ((w3.setCell ⟨b, 512, none⟩ v').setCell ⟨b, i, none⟩ (.string s)) := ⟨_, by
        rw [show (D1.put i s) = { D1 with wr := D1.wr.set i s, ca := D1.ca ++ [i] } by simp [Dsk.put, HM.out]]
        exact d4, hnew, k5⟩
      have c5 := cell_at e3 512 _ (dl_tail h1.good.wl h1.good.ll _ 0)
      have f5 := free_at e3
      have c6 := cell_at d3.blk i _ (dl_wr d3.good.wl _ i hi)
      have f6 := free_at d3.blk
      obtain ⟨va, vc, rfl⟩ := own_slice hown3
      clear c1 c2 f1 h1 k1 k2 b2 o2 hown3 hgrow hnil hwhere hnew e3 d3 d4 k3 k4 G
      go_wp2
      go_ret
      rw [HE.out]
      exact ⟨rfl, d5⟩
  · rw [if_neg he] at HE
    have he' : (e1 == 0) = false := beq_eq_false_iff_ne.2 he
    go_wp2
    go_ret
    rw [HE.out]
    exact ⟨rfl, _, h1, fun g hg => Or.inl (hso g hg), k1⟩
theorem sector_no {i : Int} (h : i < 0 ∨ 256 ≤ i) : decide (0 ≤ i ∧ i < 256) = false := decide_eq_false (by omega)
set_option maxHeartbeats 1000000 in
theorem write_at (w : World) (B b : Nat) (D : Dsk) (sl : Value) (i : Int) (s : ByteArray) (ho : D.ops < 4611686018427387904) (hB : B ≤ b) (h : DiskAt w b D sl) :
    Calls Tryz.prog 19 #[.pointer (some ⟨b, 0, none⟩), .int .i64 i, .string s] w fun e w' => e = .returned (.int .i64 (D.write i s).2) ∧ DNext B b sl (D.write i s).1 w w' := by
  by_cases hi : i < 0 ∨ 256 ≤ i
  · have hE : D.write i s = (D, 40) := by unfold Dsk.write; rw [if_pos hi]
    rw [hE]
    have hsec := sector_no hi
    clear hE hi
    go_enter Tryz.func19, Tryz.ntmps19
    go_wp2_with (go_at_call 41; refine (sector_any w i).mono ?_; rintro e w' ⟨rfl, rfl⟩; rw [hsec])
    go_ret
    exact ⟨rfl, sl, h, fun g hg => Or.inl hg, Kf.refl _ _ _⟩
  · by_cases hs : 256 < s.size
    · have hE : D.write i s = (D, 41) := by unfold Dsk.write; rw [if_neg hi, if_pos hs]
      rw [hE]
      have hsec := not_both hi
      have hs' : (256 : Int) < (s.size : Int) := by omega
      clear hE hi
      go_enter Tryz.func19, Tryz.ntmps19
      go_wp2_with (go_at_call 41; refine (sector_any w i).mono ?_; rintro e w' ⟨rfl, rfl⟩; rw [hsec])
      go_ret
      exact ⟨rfl, sl, h, fun g hg => Or.inl hg, Kf.refl _ _ _⟩
    · obtain ⟨n, rfl⟩ : ∃ n : Nat, i = n := ⟨i.toNat, by omega⟩
      exact write_in w B b D sl n s ho hB (by omega) (by omega) h
set_option maxHeartbeats 1000000 in
theorem sync_at (w : World) (B b : Nat) (D : Dsk) (sl0 : Value) (ho : D.ops < 4611686018427387904) (hB : B ≤ b) (h : DiskAt w b D sl0) :
    Calls Tryz.prog 95 #[.pointer (some ⟨b, 0, none⟩)] w fun e w' => e = .returned (.int .i64 D.sync.2) ∧ DNext B b sl0 D.sync.1 w w' := by
  have HE := hid (show D.sync = if D.begin.2 = 0 then (D.begin.1.synced, 0) else D.begin from rfl)
  go_enter Tryz.func95, Tryz.ntmps95
  go_wp2_with fail
  refine (begin_any w (Sd b sl0) B b D sl0 ho (Or.inl rfl) hB h).mono ?_
  rintro e w1 ⟨rfl, ⟨sl, h1, hsl⟩, k1⟩
  generalize D.begin = DB at *
  obtain ⟨D1, e1⟩ := DB
  simp only at h1 HE ⊢
  by_cases he : e1 = 0
  · subst he
    obtain ⟨w2, r1, e2, e3, e4⟩ := run_storeSeg (P := Tryz.prog) b 256 57 (strs D1.wr) 0 _ w1 h1.blk (by have := dlist_len h1.good sl; rw [this]; simp [strs, h1.good.wl]) (strs_one _)
    have hz : (strs D1.wr).length = 256 := by simp [strs, h1.good.wl]
    have h2 := h1.put_la D1.wr h1.good.wl e2 e4
    have k2 := k1.trans (e3 _ B b rfl (Or.inl rfl) hB)
    clear e2 e3 e4
    go_wp2
    refine wp_load_seg _ _ rfl b 0 (strs D1.wr) rfl h1.segs.2 256 9 Tryz.underlying52 (by rw [sectors_info]; simp [strs, h1.good.wl]) ?_
    clear h1 k1
    have c3 := cell_at h2.blk 512 _ (dl_tail h2.good.wl h2.good.ll _ 0)
    have f1 := free_at h2.blk
    have h5 : DiskAt (w2.setCell ⟨b, 512, none⟩ (.slice none 0 0)) b D1.synced (.slice none 0 0) :=
      ⟨(h2.da.set 0 (.slice none 0 0)).blk, World.ownsRow_nil _ _ _ _, { h2.good with nd := by simp [Dsk.synced], lt := by simp [Dsk.synced] }⟩
    have k5 := k2.set (k := 512) (Or.inl rfl) hB (.slice none 0 0)
    go_wp2
    go_ret
    rw [HE.out]
    exact ⟨rfl, _, h5, fun g hg => by simp [Value.ownBlock] at hg, k5⟩
  · rw [if_neg he] at HE
    have he' : (e1 == 0) = false := beq_eq_false_iff_ne.2 he
    go_wp2
    go_ret
    rw [HE.out]
    refine ⟨rfl, _, h1, fun g hg => ?_, k1⟩
    rcases hsl with rfl | rfl
    · exact Or.inl hg
    · simp [Value.ownBlock] at hg
def Dsk.read (D : Dsk) (i : Int) : ByteArray := if i < 0 ∨ 256 ≤ i then ByteArray.empty else D.wr.getD i.toNat ByteArray.empty
def readE (i : Int) : Int := if i < 0 ∨ 256 ≤ i then 40 else 0
theorem read_any (w : World) (b : Nat) (D : Dsk) (i : Int) (h : DiskIs w b D) :
    Calls Tryz.prog 47 #[.pointer (some ⟨b, 0, none⟩), .int .i64 i] w fun e w' => e = .returned (.tuple #[.string (D.read i), .int .i64 (readE i)]) ∧ w' = w := by
  obtain ⟨sl, h⟩ := h
  by_cases hi : i < 0 ∨ 256 ≤ i
  · have hE : D.read i = ByteArray.empty := by unfold Dsk.read; rw [if_pos hi]
    have hF : readE i = 40 := by unfold readE; rw [if_pos hi]
    rw [hE, hF]
    have hsec := sector_no hi
    clear hE hi hF
    go_enter Tryz.func47, Tryz.ntmps47
    go_wp2_with (go_at_call 41; refine (sector_any w i).mono ?_; rintro e w' ⟨rfl, rfl⟩; rw [hsec])
    go_ret2
    exact ⟨rfl, rfl⟩
  · obtain ⟨n, rfl⟩ : ∃ n : Nat, i = n := ⟨i.toNat, by omega⟩
    have hE : D.read (n : Int) = D.wr.getD n ByteArray.empty := by unfold Dsk.read; rw [if_neg hi]; simp
    have hF : readE n = 0 := by unfold readE; rw [if_neg hi]
    rw [hE, hF]
    have hsec := not_both hi
    have hn : n < 256 := by omega
    have c1 := cell_at h.blk n _ (dl_wr h.good.wl sl n hn)
    clear hE hF hi
    generalize D.wr.getD n ByteArray.empty = s at *
    go_enter Tryz.func47, Tryz.ntmps47
    go_wp2_with (go_at_call 41; refine (sector_any w n).mono ?_; rintro e w' ⟨rfl, rfl⟩; rw [hsec])
    go_ret2
    exact ⟨rfl, rfl⟩
theorem ops_any (w : World) (b : Nat) (D : Dsk) (h : DiskIs w b D) :
    Calls Tryz.prog 49 #[.pointer (some ⟨b, 0, none⟩)] w fun e w' => e = .returned (.int .i64 (D.ops : Int)) ∧ w' = w := by
  obtain ⟨sl, h⟩ := h
  have c1 := cell_at h.blk 513 _ (dl_tail h.good.wl h.good.ll sl 1)
  go_enter Tryz.func49, Tryz.ntmps49
  go_wp2
  go_ret
  exact ⟨rfl, rfl⟩
theorem dead_any (w : World) (b : Nat) (D : Dsk) (h : DiskIs w b D) :
    Calls Tryz.prog 48 #[.pointer (some ⟨b, 0, none⟩)] w fun e w' => e = .returned (.bool D.dead) ∧ w' = w := by
  obtain ⟨sl, h⟩ := h
  have c1 := cell_at h.blk 514 _ (dl_tail h.good.wl h.good.ll sl 2)
  go_enter Tryz.func48, Tryz.ntmps48
  go_wp2
  go_ret
  exact ⟨rfl, rfl⟩
theorem cut_at (w : World) (B b : Nat) (D : Dsk) (sl : Value) (n : Int) (keep : Nat) (hn : -9223372036854775808 ≤ n ∧ n < 9223372036854775808) (hk : keep < 18446744073709551616) (hB : B ≤ b) (h : DiskAt w b D sl) :
    Calls Tryz.prog 13 #[.pointer (some ⟨b, 0, none⟩), .int .i64 n, .int .u64 (keep : Int)] w fun e w' => e = .returned (.tuple #[]) ∧ DNext B b sl (D.cut n keep) w w' := by
  have hlt : B ≤ w.heap.size := by have := lt_of_block h.blk; omega
  have HG := hid (h.good.cut n keep hn.2 hk)
  go_enter Tryz.func13, Tryz.ntmps13
  go_wp2_with fail
  refine (orderOf_any w n hn).mono ?_
  rintro e w1 ⟨rfl, hb1⟩
  have h1 := h.below hb1
  have k1 : Kf (Sd b sl) B w w1 := Kf.of_below hb1 hlt
  have c4 := cell_at h1.blk 516 _ (dl_tail h1.good.wl h1.good.ll sl 4)
  have c5 := cell_at h1.blk 517 _ (dl_tail h1.good.wl h1.good.ll sl 5)
  have c8 := cell_at h1.blk 520 _ (dl_tail h1.good.wl h1.good.ll sl 8)
  have f1 := free_at h1.blk
  have h2 : DiskAt (((w1.setCell ⟨b, 516, none⟩ (.bool true)).setCell ⟨b, 517, none⟩ (.int .i64 (n.toNat : Int))).setCell ⟨b, 520, none⟩ (.int .u64 (keep : Int))) b (D.cut n keep) sl :=
    (((h1.da.set 4 (.bool true)).set 5 (.int .i64 (n.toNat : Int))).set 8 (.int .u64 (keep : Int))).disk (D := D.cut n keep) HG.out
  have k2 := ((k1.set (k := 516) (Or.inl rfl) hB (.bool true)).set (k := 517) (Or.inl rfl) hB (.int .i64 (n.toNat : Int))).set (k := 520) (Or.inl rfl) hB (.int .u64 (keep : Int))
  generalize (n.toNat : Int) = N at *
  clear h h1 hb1 k1 hn
  go_wp2
  exact bodyPost_end (results_none rfl _ _ _) rfl ⟨rfl, sl, h2, fun g hg => Or.inl hg, k2⟩
theorem fail_at (w : World) (B b : Nat) (D : Dsk) (sl : Value) (n : Int) (hn : -9223372036854775808 ≤ n ∧ n < 9223372036854775808) (hB : B ≤ b) (h : DiskAt w b D sl) :
    Calls Tryz.prog 15 #[.pointer (some ⟨b, 0, none⟩), .int .i64 n] w fun e w' => e = .returned (.tuple #[]) ∧ DNext B b sl (D.fail n) w w' := by
  have hlt : B ≤ w.heap.size := by have := lt_of_block h.blk; omega
  have HG := hid (h.good.fail n hn.2)
  go_enter Tryz.func15, Tryz.ntmps15
  go_wp2_with fail
  refine (orderOf_any w n hn).mono ?_
  rintro e w1 ⟨rfl, hb1⟩
  have h1 := h.below hb1
  have k1 : Kf (Sd b sl) B w w1 := Kf.of_below hb1 hlt
  have c4 := cell_at h1.blk 518 _ (dl_tail h1.good.wl h1.good.ll sl 6)
  have c5 := cell_at h1.blk 519 _ (dl_tail h1.good.wl h1.good.ll sl 7)
  have f1 := free_at h1.blk
  have h2 : DiskAt ((w1.setCell ⟨b, 518, none⟩ (.bool true)).setCell ⟨b, 519, none⟩ (.int .i64 (n.toNat : Int))) b (D.fail n) sl :=
    ((h1.da.set 6 (.bool true)).set 7 (.int .i64 (n.toNat : Int))).disk (D := D.fail n) HG.out
  have k2 := (k1.set (k := 518) (Or.inl rfl) hB (.bool true)).set (k := 519) (Or.inl rfl) hB (.int .i64 (n.toNat : Int))
  generalize (n.toNat : Int) = N at *
  clear h h1 hb1 k1 hn
  go_wp2
  exact bodyPost_end (results_none rfl _ _ _) rfl ⟨rfl, sl, h2, fun g hg => Or.inl hg, k2⟩
theorem crash_at (w : World) (B b : Nat) (D : Dsk) (sl : Value) (keep : Nat) (hk : keep < 18446744073709551616) (hB : B ≤ b) (h : DiskAt w b D sl) :
    Calls Tryz.prog 17 #[.pointer (some ⟨b, 0, none⟩), .int .u64 (keep : Int)] w fun e w' => e = .returned (.tuple #[]) ∧ DNext B b sl (D.crash keep) w w' := by
  have c1 := cell_at h.blk 514 _ (dl_tail h.good.wl h.good.ll sl 2)
  cases hd : D.dead
  · rw [hd] at c1
    have HE := hid (show D.crash keep = D.lose keep by simp [Dsk.crash, hd])
    go_enter Tryz.func17, Tryz.ntmps17
    go_wp2_with fail
    refine (lose_any w (Sd b sl) B b D sl keep hk (Or.inl rfl) hB h).mono ?_
    rintro e w1 ⟨rfl, h1, k1⟩
    go_wp2
    refine bodyPost_end (results_none rfl _ _ _) rfl ⟨rfl, .slice none 0 0, ?_, fun g hg => by simp [Value.ownBlock] at hg, k1⟩
    rw [HE.out]; exact h1
  · rw [hd] at c1
    have HE := hid (show D.crash keep = D by simp [Dsk.crash, hd])
    go_enter Tryz.func17, Tryz.ntmps17
    go_wp2
    refine bodyPost_end (results_none rfl _ _ _) rfl ⟨rfl, sl, ?_, fun g hg => Or.inl hg, Kf.refl _ _ _⟩
    rw [HE.out]; exact h
theorem power_at (w : World) (B b : Nat) (D : Dsk) (sl : Value) (hB : B ≤ b) (h : DiskAt w b D sl) :
    Calls Tryz.prog 21 #[.pointer (some ⟨b, 0, none⟩)] w fun e w' => e = .returned (.tuple #[]) ∧ DNext B b sl D.power w w' := by
  have c1 := cell_at h.blk 514 _ (dl_tail h.good.wl h.good.ll sl 2)
  have c2 := cell_at h.blk 515 _ (dl_tail h.good.wl h.good.ll sl 3)
  have f1 := free_at h.blk
  have h1 := ((h.da.set 2 (.bool false)).set 3 (.bool false)).disk (D := { D with dead := false, fl := false }) { h.good with }
  have k1 := ((Kf.refl (Sd b sl) B w).set (k := 514) (Or.inl rfl) hB (.bool false)).set (k := 515) (Or.inl rfl) hB (.bool false)
  go_enter Tryz.func21, Tryz.ntmps21
  go_wp2_with fail
  refine (forget_any _ (Sd b sl) B b _ sl (Or.inl rfl) hB h1).mono ?_
  rintro e w1 ⟨rfl, h2, k2⟩
  go_wp2
  exact bodyPost_end (results_none rfl _ _ _) rfl ⟨rfl, sl, h2, fun g hg => Or.inl hg, k1.trans k2⟩
theorem write_any (w : World) (B b : Nat) (D : Dsk) (i : Int) (s : ByteArray) (ho : D.ops < 4611686018427387904) (hB : B ≤ b) (h : DiskIs w b D) :
    Calls Tryz.prog 19 #[.pointer (some ⟨b, 0, none⟩), .int .i64 i, .string s] w fun e w' => e = .returned (.int .i64 (D.write i s).2) ∧ DiskIs w' b (D.write i s).1 ∧ Kp B b w w' := by
  obtain ⟨sl, h⟩ := h
  exact (write_at w B b D sl i s ho hB h).mono fun e w' ⟨he, hk⟩ => ⟨he, hk.old h⟩
theorem sync_any (w : World) (B b : Nat) (D : Dsk) (ho : D.ops < 4611686018427387904) (hB : B ≤ b) (h : DiskIs w b D) :
    Calls Tryz.prog 95 #[.pointer (some ⟨b, 0, none⟩)] w fun e w' => e = .returned (.int .i64 D.sync.2) ∧ DiskIs w' b D.sync.1 ∧ Kp B b w w' := by
  obtain ⟨sl, h⟩ := h
  exact (sync_at w B b D sl ho hB h).mono fun e w' ⟨he, hk⟩ => ⟨he, hk.old h⟩
theorem cut_any (w : World) (B b : Nat) (D : Dsk) (n : Int) (keep : Nat) (hn : -9223372036854775808 ≤ n ∧ n < 9223372036854775808) (hk : keep < 18446744073709551616) (hB : B ≤ b) (h : DiskIs w b D) :
    Calls Tryz.prog 13 #[.pointer (some ⟨b, 0, none⟩), .int .i64 n, .int .u64 (keep : Int)] w fun e w' => e = .returned (.tuple #[]) ∧ DiskIs w' b (D.cut n keep) ∧ Kp B b w w' := by
  obtain ⟨sl, h⟩ := h
  exact (cut_at w B b D sl n keep hn hk hB h).mono fun e w' ⟨he, hk⟩ => ⟨he, hk.old h⟩
theorem fail_any (w : World) (B b : Nat) (D : Dsk) (n : Int) (hn : -9223372036854775808 ≤ n ∧ n < 9223372036854775808) (hB : B ≤ b) (h : DiskIs w b D) :
    Calls Tryz.prog 15 #[.pointer (some ⟨b, 0, none⟩), .int .i64 n] w fun e w' => e = .returned (.tuple #[]) ∧ DiskIs w' b (D.fail n) ∧ Kp B b w w' := by
  obtain ⟨sl, h⟩ := h
  exact (fail_at w B b D sl n hn hB h).mono fun e w' ⟨he, hk⟩ => ⟨he, hk.old h⟩
theorem crash_any (w : World) (B b : Nat) (D : Dsk) (keep : Nat) (hk : keep < 18446744073709551616) (hB : B ≤ b) (h : DiskIs w b D) :
    Calls Tryz.prog 17 #[.pointer (some ⟨b, 0, none⟩), .int .u64 (keep : Int)] w fun e w' => e = .returned (.tuple #[]) ∧ DiskIs w' b (D.crash keep) ∧ Kp B b w w' := by
  obtain ⟨sl, h⟩ := h
  exact (crash_at w B b D sl keep hk hB h).mono fun e w' ⟨he, hk⟩ => ⟨he, hk.old h⟩
theorem power_any (w : World) (B b : Nat) (D : Dsk) (hB : B ≤ b) (h : DiskIs w b D) :
    Calls Tryz.prog 21 #[.pointer (some ⟨b, 0, none⟩)] w fun e w' => e = .returned (.tuple #[]) ∧ DiskIs w' b D.power ∧ Kp B b w w' := by
  obtain ⟨sl, h⟩ := h
  exact (power_at w B b D sl  hB h).mono fun e w' ⟨he, hk⟩ => ⟨he, hk.old h⟩
end Go.Proofs.YtjldlmonccgopaaGreat
/- The disk: New. -/
namespace Go.Proofs.YtjldlmonccgopaaGreat
open Go.RowKit
set_option linter.unusedVariables false
set_option maxRecDepth 100000
set_option linter.unusedSimpArgs false

theorem new_info : (Tryz.prog.info? 57).map (fun i => (i.zero, i.size)) = some (some (.agg (dlist Dsk.new (.slice none 0 0)).toArray), 521) := by kernel_rfl
set_option maxHeartbeats 1000000 in
theorem new_any (w : World) :
    Calls Tryz.prog 5 #[] w fun e w' => e = .returned (.pointer (some ⟨w.heap.size, 0, none⟩)) ∧ DiskIs w' w.heap.size Dsk.new ∧ Below w.heap.size w w' := by
  go_enter Tryz.func5, Tryz.ntmps5
  obtain ⟨C, hC, hB⟩ : ∃ C, (∀ w, (zeroValue 57).run Tryz.prog w = .ok (.agg C) w) ∧ Hid (C = (dlist Dsk.new (.slice none 0 0)).toArray) := ⟨_, (zero_of_info new_info).1, rfl⟩
  go_wp2
  go_ret
  refine ⟨rfl, ⟨.slice none 0 0, ?_, World.ownsRow_nil _ _ _ _, Dsk.good_new⟩, (Below.refl _ _).alloc (Nat.le_refl _) _⟩
  rw [← hB.out]
  exact heap_alloc_last w _
end Go.Proofs.YtjldlmonccgopaaGreat
