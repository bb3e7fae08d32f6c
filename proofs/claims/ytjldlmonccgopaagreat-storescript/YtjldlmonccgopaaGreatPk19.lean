/- EBase, ECrash, ERaw, EOps, EWrite, ENew. -/
import Derived.Test.YtjldlmonccgopaaGreatPk10
import Derived.Deep.Slices
import Derived.ProofKit
import Derived.Deep.RegionHeld3
import Derived.Deep.DrawnRows
/- The document's disk in memory, told by the same plain disk. -/
namespace Go.Proofs.YtjldlmonccgopaaGreat
open Go.RowKit
set_option linter.unusedVariables false
set_option maxRecDepth 100000
set_option linter.unusedSimpArgs false

theorem row_at {w : World} {base g n cap : Nat} {X : List ByteArray} (hown : w.ownsRow base 9 1 (.slice (some ⟨g, 0, none⟩) n cap) n (strs X)) (k : Nat) (hk : k < X.length) : w.cell? ⟨g, k, none⟩ = some (.string (X.getD k ByteArray.empty)) := by
  have hn : (strs X).length = n * 1 := hown.1
  have h := hown.cellAt k (by rw [← hn]; simpa [strs] using hk)
  rw [h]; simp [strs, hk]
/-- What is not cached is as it lasted. -/
def Inv (D : Dsk) : Prop := ∀ i, i < 256 → i ∉ D.ca → D.wr.getD i ByteArray.empty = D.la.getD i ByteArray.empty
def rlist (D : Dsk) (vw vi vc : Value) (cl fk : Int) (keep : Nat) : List Value := [vw, vi, vc, .int .i64 (D.ops : Int), .bool D.cg, .int .i64 cl, .bool D.fg, .int .i64 fk, .int .u64 (keep : Int), .bool D.dead, .bool D.fl]
structure RAt (w : World) (b : Nat) (D : Dsk) (vw vi vc : Value) (cl fk : Int) (keep : Nat) : Prop where
  blk : w.heap[b]? = some (.cells (rlist D vw vi vc cl fk keep).toArray 62 (0, 0))
  was : w.ownsRow b 9 1 vw 256 (strs D.la)
  is : w.ownsRow b 9 1 vi 256 (strs D.wr)
  ca : w.ownsRow b 3 1 vc D.ca.length (ints D.ca)
  ne : vw.ownBlock ≠ vi.ownBlock
  good : D.Good
  cl : D.cg = true → cl = D.cl ∧ keep = D.keep
  fk : D.fg = true → fk = D.fk
  kp : keep < 18446744073709551616
/-- The blocks of the document's disk. -/
def Sr (b : Nat) (vw vi vc : Value) : Nat → Prop := fun k => k = b ∨ vw.ownBlock = some k ∨ vi.ownBlock = some k ∨ vc.ownBlock = some k
theorem own_pos {w : World} {base : Nat} {e : TypeId} {v : Value} {n : Nat} {xs : List Value} (h : w.ownsRow base e 1 v n xs) (hn : 0 < n) : ∃ g cap, v = .slice (some ⟨g, 0, none⟩) n cap ∧ n ≤ cap ∧ cap ≤ 9223372036854775807 := by
  rcases own_form h with ⟨_, h0⟩ | ⟨g, cap, hv, h1, h2, _⟩
  · omega
  · unfold maxLen at h2; exact ⟨g, cap, hv, h1, by omega⟩
theorem RAt.cell {w : World} {b : Nat} {D : Dsk} {vw vi vc : Value} {cl fk : Int} {keep : Nat} (h : RAt w b D vw vi vc cl fk keep) (j : Nat) (v : Value) (hv : (rlist D vw vi vc cl fk keep)[j]? = some v) : w.cell? ⟨b, j, none⟩ = some v := cell_at h.blk j v hv
theorem RAt.free {w : World} {b : Nat} {D : Dsk} {vw vi vc : Value} {cl fk : Int} {keep : Nat} (h : RAt w b D vw vi vc cl fk keep) (j : Nat) : w.frozen? ⟨b, j, none⟩ = false := free_at h.blk j
/-- A store into the block of the disk itself. -/
theorem RAt.set {w : World} {b : Nat} {D D' : Dsk} {vw vi vc : Value} {cl fk cl' fk' : Int} {keep keep' : Nat} (h : RAt w b D vw vi vc cl fk keep) (j : Nat) (v : Value) (e : (rlist D vw vi vc cl fk keep).set j v = rlist D' vw vi vc cl' fk' keep') (e1 : D'.la = D.la) (e2 : D'.wr = D.wr) (e3 : D'.ca = D.ca) (hg : D'.Good) (hc : D'.cg = true → cl' = D'.cl ∧ keep' = D'.keep) (hf : D'.fg = true → fk' = D'.fk) (hk : keep' < 18446744073709551616) : RAt (w.setCell ⟨b, j, none⟩ v) b D' vw vi vc cl' fk' keep' :=
  ⟨by rw [← e]; exact set_at h.blk, by rw [e1]; exact ownsRow_setCell_other h.was (own_ne h.was h.blk (by decide)) v, by rw [e2]; exact ownsRow_setCell_other h.is (own_ne h.is h.blk (by decide)) v, by rw [e3]; exact ownsRow_setCell_other h.ca (own_ne h.ca h.blk (by decide)) v, h.ne, hg, hc, hf, hk⟩
theorem two_rows {w : World} {base base' : Nat} {e e' : TypeId} {v v' : Value} {n n' : Nat} {xs xs' : List Value} (h : w.ownsRow base e 1 v n xs) (h' : w.ownsRow base' e' 1 v' n' xs') (hne : e ≠ e') (g : Nat) (hg : v.ownBlock = some g) : v'.ownBlock ≠ some g := by
  obtain ⟨c, fz, hc⟩ := own_kind h g hg
  exact own_ne h' hc (fun x => hne x.symm)
theorem RAt.drew {w : World} {b : Nat} {D : Dsk} {vw vi vc : Value} {cl fk : Int} {keep : Nat} (h : RAt w b D vw vi vc cl fk keep) : RAt w.drew b D vw vi vc cl fk keep := ⟨h.blk, h.was.drew, h.is.drew, h.ca.drew, h.ne, h.good, h.cl, h.fk, h.kp⟩
/-- A sector of what lasts is stored. -/
theorem RAt.set_was {w : World} {b gw cw : Nat} {D : Dsk} {vi vc : Value} {cl fk : Int} {keep : Nat} (h : RAt w b D (.slice (some ⟨gw, 0, none⟩) 256 cw) vi vc cl fk keep) (i : Nat) (s : ByteArray) : RAt (w.setCell ⟨gw, i, none⟩ (.string s)) b { D with la := D.la.set i s } (.slice (some ⟨gw, 0, none⟩) 256 cw) vi vc cl fk keep := by
  have hb : b ≠ gw := fun e => own_ne h.was h.blk (by decide) (by simp [Value.ownBlock, e])
  refine ⟨(Below.heap_setCell w ⟨gw, i, none⟩ _ b hb).trans h.blk, ?_, ownsRow_setCell_other h.is (fun e => h.ne (by rw [e]; rfl)) _, ownsRow_setCell_other h.ca (two_rows h.was h.ca (by decide) gw rfl) _, h.ne, { h.good with ll := by simp [h.good.ll] }, h.cl, h.fk, h.kp⟩
  rw [show ∀ (X : List ByteArray) (i : Nat) (s : ByteArray), strs (X.set i s) = (strs X).set i (.string s) from fun X i s => by simp [strs, List.map_set]]
  exact (h.was.stored i (.string s)).1
theorem RAt.set_is {w : World} {b gi ci : Nat} {D : Dsk} {vw vc : Value} {cl fk : Int} {keep : Nat} (h : RAt w b D vw (.slice (some ⟨gi, 0, none⟩) 256 ci) vc cl fk keep) (i : Nat) (s : ByteArray) : RAt (w.setCell ⟨gi, i, none⟩ (.string s)) b { D with wr := D.wr.set i s } vw (.slice (some ⟨gi, 0, none⟩) 256 ci) vc cl fk keep := by
  have hb : b ≠ gi := fun e => own_ne h.is h.blk (by decide) (by simp [Value.ownBlock, e])
  refine ⟨(Below.heap_setCell w ⟨gi, i, none⟩ _ b hb).trans h.blk, ownsRow_setCell_other h.was (fun e => h.ne (by rw [e]; rfl)) _, ?_, ownsRow_setCell_other h.ca (two_rows h.is h.ca (by decide) gi rfl) _, h.ne, { h.good with wl := by simp [h.good.wl] }, h.cl, h.fk, h.kp⟩
  rw [show ∀ (X : List ByteArray) (i : Nat) (s : ByteArray), strs (X.set i s) = (strs X).set i (.string s) from fun X i s => by simp [strs, List.map_set]]
  exact (h.is.stored i (.string s)).1
theorem loseL_other (keep : Nat) (W : List ByteArray) (i : Nat) : ∀ (ca : List Nat) (k : Nat) (L : List ByteArray), i ∉ ca → (loseL keep W ca k L).getD i ByteArray.empty = L.getD i ByteArray.empty
  | [], _, _, _ => rfl
  | j :: is, k, L, h => by
    simp only [loseL]
    rw [loseL_other keep W i is (k + 1) _ (fun e => h (List.mem_cons_of_mem _ e))]
    split
    · have hij : j ≠ i := fun e => h (by rw [e]; exact List.mem_cons_self)
      simp [List.getD_eq_getElem?_getD, List.getElem?_set, hij]
    · rfl
theorem ext_getD {X Y : List ByteArray} (hx : X.length = 256) (hy : Y.length = 256) (h : ∀ i, i < 256 → X.getD i ByteArray.empty = Y.getD i ByteArray.empty) : X = Y := by
  apply List.ext_getElem (by rw [hx, hy])
  intro i h1 h2
  have := h i (by omega)
  simpa [List.getD_eq_getElem?_getD, h1, h2] using this
/-- What 'Is' is when k cached sectors were looked at. -/
def IsMid (D : Dsk) (keep k : Nat) (X : List ByteArray) : Prop := X.length = 256 ∧ ∀ i, i < 256 → X.getD i ByteArray.empty = if i ∈ D.ca.take k then (loseL keep D.wr (D.ca.take k) 0 D.la).getD i ByteArray.empty else D.wr.getD i ByteArray.empty
theorem mid_start {D : Dsk} (keep : Nat) (h : D.Good) : IsMid D keep 0 D.wr := ⟨h.wl, fun i hi => by simp⟩
theorem mid_end {D : Dsk} {keep : Nat} {X : List ByteArray} (h : IsMid D keep D.ca.length X) (hi : Inv D) (hg : D.Good) : X = loseL keep D.wr D.ca 0 D.la := by
  refine ext_getD h.1 (by rw [loseL_len]; exact hg.ll) fun i hlt => ?_
  rw [h.2 i hlt, List.take_length]
  split
  · rfl
  · rename_i hn
    rw [loseL_other _ _ _ _ _ _ hn, hi i hlt hn]
theorem take_snoc {L : List Nat} {k : Nat} (h : k < L.length) : L.take (k + 1) = L.take k ++ [L.getD k 0] := by
  rw [List.take_succ_eq_append_getElem h]; simp [h]
theorem not_take {L : List Nat} (h : L.Nodup) {k : Nat} (hk : k < L.length) : L.getD k 0 ∉ L.take k := by
  rw [← List.take_append_drop k L] at h
  have h2 := (List.nodup_append.1 h).2.2
  intro hm
  refine h2 _ hm _ ?_ rfl
  rw [show L.getD k 0 = L[k] by simp [hk], List.drop_eq_getElem_cons hk]
  exact List.mem_cons_self
theorem mid_snoc {D : Dsk} (keep : Nat) {k : Nat} (hk : k < D.ca.length) : loseL keep D.wr (D.ca.take (k + 1)) 0 D.la = if kbit keep k then (loseL keep D.wr (D.ca.take k) 0 D.la).set (D.ca.getD k 0) (D.wr.getD (D.ca.getD k 0) ByteArray.empty) else loseL keep D.wr (D.ca.take k) 0 D.la := by
  rw [take_snoc hk, loseL_snoc, show 0 + (D.ca.take k).length = k by simp; omega]
theorem mid_keep {D : Dsk} {keep k : Nat} {X : List ByteArray} (h : IsMid D keep k X) (hg : D.Good) (hk : k < D.ca.length) (hb : kbit keep k = true) : X.getD (D.ca.getD k 0) ByteArray.empty = D.wr.getD (D.ca.getD k 0) ByteArray.empty ∧ IsMid D keep (k + 1) X := by
  have hlt : D.ca.getD k 0 < 256 := hg.lt _ (mem_getD.2 ⟨k, hk, rfl⟩)
  have hn := not_take hg.nd hk
  have e : X.getD (D.ca.getD k 0) ByteArray.empty = D.wr.getD (D.ca.getD k 0) ByteArray.empty := by rw [h.2 _ hlt, if_neg hn]
  refine ⟨e, h.1, fun i hi => ?_⟩
  rw [mid_snoc keep hk, if_pos hb, take_snoc hk, getD_set (by rw [loseL_len, hg.ll]; exact hlt)]
  by_cases hx : i = D.ca.getD k 0
  · rw [hx, if_pos (by simp), if_pos rfl, e]
  · rw [if_neg hx, h.2 i hi]
    by_cases hm : i ∈ D.ca.take k
    · rw [if_pos hm, if_pos (by simp [hm])]
    · rw [if_neg hm, if_neg (by rw [List.mem_append]; rintro (h | h); exact hm h; simp at h; exact hx (by simpa using h))]
theorem mid_drop {D : Dsk} {keep k : Nat} {X : List ByteArray} (h : IsMid D keep k X) (hg : D.Good) (hk : k < D.ca.length) (hb : kbit keep k = false) : IsMid D keep (k + 1) (X.set (D.ca.getD k 0) ((loseL keep D.wr (D.ca.take k) 0 D.la).getD (D.ca.getD k 0) ByteArray.empty)) := by
  have hlt : D.ca.getD k 0 < 256 := hg.lt _ (mem_getD.2 ⟨k, hk, rfl⟩)
  refine ⟨by rw [List.length_set]; exact h.1, fun i hi => ?_⟩
  rw [mid_snoc keep hk, if_neg (show ¬ kbit keep k = true by rw [hb]; decide), take_snoc hk, getD_set (by rw [h.1]; exact hlt)]
  by_cases hx : i = D.ca.getD k 0
  · rw [hx, if_pos rfl, if_pos (by simp)]
  · rw [if_neg hx, h.2 i hi]
    by_cases hm : i ∈ D.ca.take k
    · rw [if_pos hm, if_pos (by simp [hm])]
    · rw [if_neg hm, if_neg (by rw [List.mem_append]; rintro (h | h); exact hm h; simp at h; exact hx (by simpa using h))]
end Go.Proofs.YtjldlmonccgopaaGreat
/- The document's disk: Crash, raw. -/
namespace Go.Proofs.YtjldlmonccgopaaGreat
open Go.RowKit
set_option linter.unusedVariables false
set_option maxRecDepth 100000
set_option linter.unusedSimpArgs false

theorem Inv.lose (D : Dsk) (keep : Nat) : Inv (D.lose keep) := fun i _ _ => rfl
/-- What a call makes of the document's disk. -/
def RNext (B b : Nat) (vw vi vc : Value) (D' : Dsk) (w w' : World) : Prop := ∃ vc' cl' fk' keep', RAt w' b D' vw vi vc' cl' fk' keep' ∧ (∀ g, vc'.ownBlock = some g → vc.ownBlock = some g ∨ w.heap.size ≤ g) ∧ Kf (Sr b vw vi vc) B w w'
set_option maxHeartbeats 2000000 in
theorem elose_any (w : World) (B b : Nat) (D : Dsk) (vw vi vc : Value) (cl fk : Int) (kp0 keep : Nat) (hk : keep < 18446744073709551616) (hB : B ≤ b) (h : RAt w b D vw vi vc cl fk kp0) (hinv : Inv D) (hd : D.dead = false) :
    Calls Tryz.prog 18 #[.pointer (some ⟨b, 0, none⟩), .int .u64 (keep : Int)] w fun e w' => e = .returned (.tuple #[]) ∧ RNext B b vw vi vc (D.lose keep) w w' := by
  obtain ⟨gw, cw, rfl, hw1, hw2⟩ := own_pos h.was (by omega)
  obtain ⟨gi, ci, rfl, hi1, hi2⟩ := own_pos h.is (by omega)
  have Bw : B ≤ gw := Nat.le_trans hB (h.was.lt gw rfl).1
  have Bi : B ≤ gi := Nat.le_trans hB (h.is.lt gi rfl).1
  have hdd : w.cell? ⟨b, 9, none⟩ = some (.bool false) := by have := h.cell 9 _ rfl; rwa [hd] at this
  obtain ⟨sa, sc, rfl⟩ := own_slice h.ca
  have hsm := h.good.small
  have hG := h.good
  go_enter Tryz.func18, Tryz.ntmps18
  go_wp2
  go_loopw [4] (fun i W => ∃ (k : Nat) (X : List ByteArray), k ≤ D.ca.length ∧ i = .int .i64 k ∧ IsMid D keep k X ∧ RAt W b { D with la := loseL keep D.wr (D.ca.take k) 0 D.la, wr := X } (.slice (some ⟨gw, 0, none⟩) 256 cw) (.slice (some ⟨gi, 0, none⟩) 256 ci) (.slice sa D.ca.length sc) cl fk kp0 ∧ Kf (Sr b (.slice (some ⟨gw, 0, none⟩) 256 cw) (.slice (some ⟨gi, 0, none⟩) 256 ci) (.slice sa D.ca.length sc)) B w W) (fun i _ => D.ca.length - (intOf i).toNat)
  case atStart => exact ⟨0, D.wr, Nat.zero_le _, rfl, mid_start keep h.good, h, Kf.refl _ _ _⟩
  case round =>
    obtain ⟨k, X, hkl, rfl, hmid, hd1, kp⟩ := hrel
    clear h hdd
    have c2 := hd1.cell 2 _ rfl
    have HM := hid hmid
    clear hmid
    by_cases hlt : k < D.ca.length
    · obtain ⟨gc, cc, hsv, hc1, hc2⟩ := own_pos hd1.ca (by show 0 < D.ca.length; omega)
      simp only [Value.slice.injEq] at hsv
      obtain ⟨rfl, _, rfl⟩ := hsv
      have hx := ints_at hd1.ca k hlt
      simp only at hx
      have hmem : D.ca.getD k 0 < 256 := hd1.good.lt _ (mem_getD.2 ⟨k, hlt, rfl⟩)
      have c0 := hd1.cell 0 _ rfl
      have c1 := hd1.cell 1 _ rfl
      have hwl := hd1.good.wl
      have hll := hd1.good.ll
      simp only at hwl hll
      have s1 := row_at hd1.is (D.ca.getD k 0) (by simp only; omega)
      have s0 := row_at hd1.was (D.ca.getD k 0) (by simp only; omega)
      simp only at s0 s1
      have f1 := hd1.is.frozenAt (D.ca.getD k 0)
      have f0 := hd1.was.frozenAt (D.ca.getD k 0)
      have ht := kbit_test keep k hk
      cases hb : kbit keep k
      · rw [hb] at ht
        have HN := hid (mid_drop HM.out hG hlt hb)
        have HS := hid (show loseL keep D.wr (D.ca.take (k + 1)) 0 D.la = loseL keep D.wr (D.ca.take k) 0 D.la by rw [mid_snoc keep hlt, hb]; simp)
        have hd2 := (hd1.set_is (D.ca.getD k 0) ((loseL keep D.wr (D.ca.take k) 0 D.la).getD (D.ca.getD k 0) ByteArray.empty)).drew
        have kp2 := (kp.set (k := D.ca.getD k 0) (b := gi) (Or.inr (Or.inr (Or.inl rfl))) Bi (.string ((loseL keep D.wr (D.ca.take k) 0 D.la).getD (D.ca.getD k 0) ByteArray.empty))).drew
        clear hb HM
        generalize D.ca.getD k 0 = x at *
        generalize (loseL keep D.wr (D.ca.take k) 0 D.la).getD x ByteArray.empty = p0 at *
        generalize X.getD x ByteArray.empty = p1 at *
        go_wp2
        go_region
        generalize (wr.setCell ⟨gi, x, none⟩ (.string p0)).drew = wq at *
        clear hd1 kp c0 c1 c2 s0 s1 f0 f1 hx
        go_wp2
        go_roundw
        case rel => exact ⟨k + 1, X.set x p0, by omega, by go_num, HN.out, by rw [HS.out]; exact hd2, kp2⟩
        case measure => simp [intOf]; omega
      · rw [hb] at ht
        have HE := hid (mid_keep HM.out hG hlt hb)
        have HS := hid (show loseL keep D.wr (D.ca.take (k + 1)) 0 D.la = (loseL keep D.wr (D.ca.take k) 0 D.la).set (D.ca.getD k 0) (X.getD (D.ca.getD k 0) ByteArray.empty) by rw [mid_snoc keep hlt, hb, HE.out.1]; simp)
        have hd2 := (hd1.set_was (D.ca.getD k 0) (X.getD (D.ca.getD k 0) ByteArray.empty)).drew
        have kp2 := (kp.set (k := D.ca.getD k 0) (b := gw) (Or.inr (Or.inl rfl)) Bw (.string (X.getD (D.ca.getD k 0) ByteArray.empty))).drew
        have HN := hid HE.out.2
        clear hb HM HE
        generalize D.ca.getD k 0 = x at *
        generalize (loseL keep D.wr (D.ca.take k) 0 D.la).getD x ByteArray.empty = p0 at *
        generalize X.getD x ByteArray.empty = p1 at *
        go_wp2
        go_region
        generalize (wr.setCell ⟨gw, x, none⟩ (.string p1)).drew = wq at *
        clear hd1 kp c0 c1 c2 s0 s1 f0 f1 hx
        go_wp2
        go_roundw
        case rel => exact ⟨k + 1, X, by omega, by go_num, HN.out, by rw [HS.out]; exact hd2, kp2⟩
        case measure => simp [intOf]; omega
    · have hk' : k = D.ca.length := by omega
      subst hk'
      have hX := mid_end HM.out hinv hG
      rw [List.take_length] at hd1
      subst hX
      have HL := hid (hG.lose keep)
      have c4 := hd1.cell 4 _ rfl
      have c5 := hd1.cell 5 _ rfl
      have c6 := hd1.cell 6 _ rfl
      have c7 := hd1.cell 7 _ rfl
      have c9 := hd1.cell 9 _ rfl
      have fr := hd1.free
      have hfin : RNext B b (.slice (some ⟨gw, 0, none⟩) 256 cw) (.slice (some ⟨gi, 0, none⟩) 256 ci) (.slice sa D.ca.length sc) (D.lose keep) w ((((((wr.setCell ⟨b, 2, none⟩ (.slice none 0 0)).setCell ⟨b, 4, none⟩ (.bool false)).setCell ⟨b, 5, none⟩ (.int .i64 0)).setCell ⟨b, 6, none⟩ (.bool false)).setCell ⟨b, 7, none⟩ (.int .i64 0)).setCell ⟨b, 9, none⟩ (.bool true)) := by
        have r2 : RAt (wr.setCell ⟨b, 2, none⟩ (.slice none 0 0)) b { D with la := loseL keep D.wr D.ca 0 D.la, wr := loseL keep D.wr D.ca 0 D.la, ca := [] } (.slice (some ⟨gw, 0, none⟩) 256 cw) (.slice (some ⟨gi, 0, none⟩) 256 ci) (.slice none 0 0) cl fk kp0 :=
          ⟨set_at hd1.blk, ownsRow_setCell_other hd1.was (own_ne hd1.was hd1.blk (by decide)) _, ownsRow_setCell_other hd1.is (own_ne hd1.is hd1.blk (by decide)) _, World.ownsRow_nil _ _ _ _, hd1.ne, { hd1.good with nd := by simp, lt := by simp }, hd1.cl, hd1.fk, hd1.kp⟩
        have r4 := r2.set (D' := { D with la := loseL keep D.wr D.ca 0 D.la, wr := loseL keep D.wr D.ca 0 D.la, ca := [], cg := false, cl := 0 }) (cl' := cl) (fk' := fk) (keep' := kp0) 4 (.bool false) rfl rfl rfl rfl { r2.good with cl := by simp, c0 := by simp } (by simp) r2.fk r2.kp
        have r5 := r4.set (D' := { D with la := loseL keep D.wr D.ca 0 D.la, wr := loseL keep D.wr D.ca 0 D.la, ca := [], cg := false, cl := 0 }) (cl' := 0) (fk' := fk) (keep' := kp0) 5 (.int .i64 0) rfl rfl rfl rfl r4.good (by simp) r4.fk r4.kp
        have r6 := r5.set (D' := { D with la := loseL keep D.wr D.ca 0 D.la, wr := loseL keep D.wr D.ca 0 D.la, ca := [], cg := false, cl := 0, fg := false, fk := 0 }) (cl' := 0) (fk' := fk) (keep' := kp0) 6 (.bool false) rfl rfl rfl rfl { r5.good with fk := by simp, f0 := by simp } (by simp) (by simp) r5.kp
        have r7 := r6.set (D' := { D with la := loseL keep D.wr D.ca 0 D.la, wr := loseL keep D.wr D.ca 0 D.la, ca := [], cg := false, cl := 0, fg := false, fk := 0 }) (cl' := 0) (fk' := 0) (keep' := kp0) 7 (.int .i64 0) rfl rfl rfl rfl r6.good (by simp) (by simp) r6.kp
        have r9 := r7.set (D' := D.lose keep) (cl' := 0) (fk' := 0) (keep' := kp0) 9 (.bool true) rfl rfl rfl rfl HL.out (by simp [Dsk.lose, Dsk.forget]) (by simp [Dsk.lose, Dsk.forget]) r7.kp
        exact ⟨_, _, _, _, r9, fun g hg => by simp [Value.ownBlock] at hg, (((((kp.set (Or.inl rfl) hB _).set (Or.inl rfl) hB _).set (Or.inl rfl) hB _).set (Or.inl rfl) hB _).set (Or.inl rfl) hB _).set (Or.inl rfl) hB _⟩
      go_wp2
      exact bodyPost_end (results_none rfl _ _ _) rfl ⟨rfl, hfin⟩
end Go.Proofs.YtjldlmonccgopaaGreat
/- The document's disk: raw. -/
namespace Go.Proofs.YtjldlmonccgopaaGreat
open Go.RowKit
set_option linter.unusedVariables false
set_option maxRecDepth 100000
set_option linter.unusedSimpArgs false

set_option maxHeartbeats 2000000 in
theorem raw_any (w : World) (B b : Nat) (D : Dsk) (vw vi vc : Value) (cl fk : Int) (keep : Nat) (ho : D.ops < 4611686018427387904) (hB : B ≤ b) (h : RAt w b D vw vi vc cl fk keep) (hinv : Inv D) :
    Calls Tryz.prog 44 #[.pointer (some ⟨b, 0, none⟩)] w fun e w' => e = .returned (.int .i64 D.begin.2) ∧ RNext B b vw vi vc D.begin.1 w w' := by
  have c3 := h.cell 3 _ rfl
  have c4 := h.cell 4 _ rfl
  have c5 := h.cell 5 _ rfl
  have c6 := h.cell 6 _ rfl
  have c7 := h.cell 7 _ rfl
  have c8 := h.cell 8 _ rfl
  have c9 := h.cell 9 _ rfl
  have c10 := h.cell 10 _ rfl
  have fr := h.free
  have hg := h.good
  have same : ∀ g, vc.ownBlock = some g → vc.ownBlock = some g ∨ w.heap.size ≤ g := fun g hg => Or.inl hg
  have HSA := hid same
  clear same
  cases hd : D.dead
  · rw [hd] at c9
    cases hf : D.fl
    · rw [hf] at c10
      by_cases hcut : D.cg = true ∧ D.cl = 0
      · obtain ⟨h1, h2⟩ := hcut
        obtain ⟨rfl, rfl⟩ := h.cl h1
        rw [h1] at c4
        rw [h2] at c5
        have HE := hid (show D.begin = (D.lose D.keep, 43) by simp [Dsk.begin, hd, hf, h1, h2])
        simp only [Int.natCast_zero, Int.cast_ofNat_Int] at c5
        go_enter Tryz.func44, Tryz.ntmps44
        go_wp2_with fail
        refine (elose_any w B b D vw vi vc _ _ _ D.keep h.kp hB h hinv hd).mono ?_
        rintro e w2 ⟨rfl, h2⟩
        go_wp2
        go_ret
        rw [HE.out]
        exact ⟨rfl, h2⟩
      · have hc : D.cg = false ∨ (D.cg = true ∧ (cl == 0) = false ∧ cl = D.cl) := by
          cases e : D.cg
          · exact Or.inl rfl
          · refine Or.inr ⟨rfl, beq_eq_false_iff_ne.2 ?_, (h.cl e).1⟩
            rw [(h.cl e).1]
            intro e2
            exact hcut ⟨e, by omega⟩
        by_cases hfail : D.fg = true ∧ D.fk = 0
        · obtain ⟨h1, h2⟩ := hfail
          obtain rfl := h.fk h1
          rw [h1] at c6
          rw [h2] at c7
          have HE := hid (show D.begin = ({ D with fl := true }, 42) by
            have e : (D.cg && D.cl == 0) = false := by
              rcases hc with e | ⟨e1, e2, e3⟩
              · simp [e]
              · rw [e3] at e2; simp at e2; simp [e2]
            simp [Dsk.begin, hd, hf, e, h1, h2])
          have hn : RNext B b vw vi vc { D with fl := true } w (w.setCell ⟨b, 10, none⟩ (.bool true)) := ⟨vc, _, _, _, h.set (D' := { D with fl := true }) (cl' := cl) (keep' := keep) 10 (.bool true) rfl rfl rfl rfl { h.good with } h.cl h.fk h.kp, HSA.out, (Kf.refl _ _ _).set (Or.inl rfl) hB _⟩
          simp only [Int.natCast_zero, Int.cast_ofNat_Int] at c7
          clear h2 hcut
          rcases hc with e | ⟨e1, e2, e3⟩
          · rw [e] at c4
            go_enter Tryz.func44, Tryz.ntmps44
            go_wp2
            go_ret
            rw [HE.out]
            exact ⟨rfl, hn⟩
          · rw [e1] at c4
            clear e3
            go_enter Tryz.func44, Tryz.ntmps44
            go_wp2
            go_ret
            rw [HE.out]
            exact ⟨rfl, hn⟩
        · have hq : D.fg = false ∨ (D.fg = true ∧ (fk == 0) = false ∧ fk = D.fk) := by
            cases e : D.fg
            · exact Or.inl rfl
            · refine Or.inr ⟨rfl, beq_eq_false_iff_ne.2 ?_, h.fk e⟩
              rw [h.fk e]
              intro e2
              exact hfail ⟨e, by omega⟩
          have HE := hid (show D.begin = ({ D with ops := D.ops + 1, cl := D.cl - 1, fk := D.fk - 1 }, 0) by
            have e : (D.cg && D.cl == 0) = false := by
              rcases hc with e | ⟨e1, e2, e3⟩
              · simp [e]
              · rw [e3] at e2; simp at e2; simp [e2]
            have e' : (D.fg && D.fk == 0) = false := by
              rcases hq with e | ⟨e1, e2, e3⟩
              · simp [e]
              · rw [e3] at e2; simp at e2; simp [e2]
            simp [Dsk.begin, hd, hf, e, e'])
          have G := hid (show Dsk.Good { D with ops := D.ops + 1, cl := D.cl - 1, fk := D.fk - 1 } by have := hg.begin; rwa [HE.out] at this)
          have hn : ∀ cl' fk' : Int, (D.cg = true → cl' = (D.cl - 1 : Nat)) → (D.fg = true → fk' = (D.fk - 1 : Nat)) → RNext B b vw vi vc { D with ops := D.ops + 1, cl := D.cl - 1, fk := D.fk - 1 } w (((w.setCell ⟨b, 5, none⟩ (.int .i64 cl')).setCell ⟨b, 7, none⟩ (.int .i64 fk')).setCell ⟨b, 3, none⟩ (.int .i64 ((D.ops : Int) + 1))) := by
            intro cl' fk' g1 g2
            have e1 : (((w.setCell ⟨b, 5, none⟩ (.int .i64 cl')).setCell ⟨b, 7, none⟩ (.int .i64 fk')).setCell ⟨b, 3, none⟩ (.int .i64 ((D.ops : Int) + 1))).heap[b]? = some (.cells (rlist { D with ops := D.ops + 1, cl := D.cl - 1, fk := D.fk - 1 } vw vi vc cl' fk' keep).toArray 62 (0, 0)) := by
              rw [set_at (set_at (set_at h.blk))]
              simp [rlist]
            have o1 := own_ne h.was h.blk (by decide)
            have o2 := own_ne h.is h.blk (by decide)
            have o3 := own_ne h.ca h.blk (by decide)
            exact ⟨vc, cl', fk', keep, ⟨e1, ownsRow_setCell_other (ownsRow_setCell_other (ownsRow_setCell_other h.was o1 _) o1 _) o1 _, ownsRow_setCell_other (ownsRow_setCell_other (ownsRow_setCell_other h.is o2 _) o2 _) o2 _, ownsRow_setCell_other (ownsRow_setCell_other (ownsRow_setCell_other h.ca o3 _) o3 _) o3 _, h.ne, G.out, fun e => ⟨g1 e, (h.cl e).2⟩, g2, h.kp⟩, HSA.out, (((Kf.refl _ _ _).set (Or.inl rfl) hB _).set (Or.inl rfl) hB _).set (Or.inl rfl) hB _⟩
          have HN := hid hn
          clear hn hcut hfail
          rcases hc with e | ⟨e1, e2, e3⟩
          all_goals rcases hq with q | ⟨q1, q2, q3⟩
          · rw [e] at c4
            rw [q] at c6
            go_enter Tryz.func44, Tryz.ntmps44
            go_wp2
            go_ret
            rw [HE.out]
            exact ⟨rfl, HN.out _ _ (by simp [e]) (by simp [q])⟩
          · rw [e] at c4
            rw [q1] at c6
            subst q3
            have p3 : D.fk ≠ 0 := by intro e; rw [e] at q2; simp at q2
            have p4 := hg.fk
            go_enter Tryz.func44, Tryz.ntmps44
            go_wp2
            go_ret
            rw [HE.out]
            exact ⟨rfl, HN.out _ _ (by simp [e]) (fun _ => by omega)⟩
          · rw [e1] at c4
            rw [q] at c6
            subst e3
            have p1 : D.cl ≠ 0 := by intro e; rw [e] at e2; simp at e2
            have p2 := hg.cl
            go_enter Tryz.func44, Tryz.ntmps44
            go_wp2
            go_ret
            rw [HE.out]
            exact ⟨rfl, HN.out _ _ (fun _ => by omega) (by simp [q])⟩
          · rw [e1] at c4
            rw [q1] at c6
            subst e3
            have p1 : D.cl ≠ 0 := by intro e; rw [e] at e2; simp at e2
            have p2 := hg.cl
            subst q3
            have p3 : D.fk ≠ 0 := by intro e; rw [e] at q2; simp at q2
            have p4 := hg.fk
            go_enter Tryz.func44, Tryz.ntmps44
            go_wp2
            go_ret
            rw [HE.out]
            exact ⟨rfl, HN.out _ _ (fun _ => by omega) (fun _ => by omega)⟩
    · rw [hf] at c10
      have HE := hid (show D.begin = (D, 42) by simp [Dsk.begin, hd, hf])
      go_enter Tryz.func44, Tryz.ntmps44
      go_wp2
      go_ret
      rw [HE.out]
      exact ⟨rfl, vc, _, _, _, h, HSA.out, Kf.refl _ _ _⟩
  · rw [hd] at c9
    have HE := hid (show D.begin = (D, 43) by simp [Dsk.begin, hd])
    go_enter Tryz.func44, Tryz.ntmps44
    go_wp2
    go_ret
    rw [HE.out]
    exact ⟨rfl, vc, _, _, _, h, HSA.out, Kf.refl _ _ _⟩
end Go.Proofs.YtjldlmonccgopaaGreat
/- The document's disk: Write, Sync, Read, Cut, Fail, Crash, Power. -/
namespace Go.Proofs.YtjldlmonccgopaaGreat
open Go.RowKit
set_option linter.unusedVariables false
set_option maxRecDepth 100000
set_option linter.unusedSimpArgs false

theorem Inv.begin {D : Dsk} (h : Inv D) : Inv D.begin.1 := by
  unfold Dsk.begin
  split
  · exact h
  · split
    · exact h
    · split
      · exact Inv.lose D _
      · split
        · exact h
        · exact h
theorem Inv.put {D : Dsk} (h : Inv D) (hl : D.wr.length = 256) (i : Nat) (hi : i < 256) (s : ByteArray) : Inv (D.put i s) := by
  intro j hj hn
  have hmem : i ∈ (D.put i s).ca := by
    simp only [Dsk.put]
    split
    · assumption
    · simp
  have hne : j ≠ i := fun e => hn (by rw [e]; exact hmem)
  show (D.wr.set i s).getD j ByteArray.empty = D.la.getD j ByteArray.empty
  rw [getD_set (by omega), if_neg hne]
  refine h j hj fun hm => hn ?_
  simp only [Dsk.put]
  split
  · exact hm
  · exact List.mem_append_left _ hm
theorem Inv.synced (D : Dsk) : Inv D.synced := fun i _ _ => rfl
theorem Inv.write {D : Dsk} (h : Inv D) (hg : D.Good) (i : Int) (s : ByteArray) : Inv (D.write i s).1 := by
  unfold Dsk.write
  split
  · exact h
  · split
    · exact h
    · split
      · exact h.begin.put hg.begin.wl _ (by omega) _
      · exact h.begin
theorem Inv.sync {D : Dsk} (h : Inv D) : Inv D.sync.1 := by
  unfold Dsk.sync
  split
  · exact Inv.synced _
  · exact h.begin
theorem Inv.crash {D : Dsk} (h : Inv D) (keep : Nat) : Inv (D.crash keep) := by
  unfold Dsk.crash
  split
  · exact h
  · exact Inv.lose D keep
theorem Inv.new : Inv Dsk.new := fun i _ _ => rfl
theorem RNext.refl {w : World} {B b : Nat} {D : Dsk} {vw vi vc : Value} {cl fk : Int} {keep : Nat} (h : RAt w b D vw vi vc cl fk keep) : RNext B b vw vi vc D w w := ⟨vc, cl, fk, keep, h, fun g hg => Or.inl hg, Kf.refl _ _ _⟩
theorem eread_any (w : World) (b : Nat) (D : Dsk) (vw vi vc : Value) (cl fk : Int) (keep : Nat) (i : Int) (h : RAt w b D vw vi vc cl fk keep) :
    Calls Tryz.prog 69 #[.pointer (some ⟨b, 0, none⟩), .int .i64 i] w fun e w' => e = .returned (.tuple #[.string (D.read i), .int .i64 (readE i)]) ∧ w' = w := by
  obtain ⟨gi, ci, rfl, hi1, hi2⟩ := own_pos h.is (by omega)
  have c1 := h.cell 1 _ rfl
  rcases (show i < 0 ∨ (0 ≤ i ∧ 256 ≤ i) ∨ (0 ≤ i ∧ i < 256) by omega) with hi | ⟨hi, hi'⟩ | ⟨hi, hi'⟩
  · rw [show D.read i = ByteArray.empty by unfold Dsk.read; rw [if_pos (Or.inl hi)], show readE i = 40 by unfold readE; rw [if_pos (Or.inl hi)]]
    go_enter Tryz.func69, Tryz.ntmps69
    go_wp2
    go_ret2
    exact ⟨rfl, rfl⟩
  · rw [show D.read i = ByteArray.empty by unfold Dsk.read; rw [if_pos (Or.inr hi')], show readE i = 40 by unfold readE; rw [if_pos (Or.inr hi')]]
    go_enter Tryz.func69, Tryz.ntmps69
    go_wp2
    go_ret2
    exact ⟨rfl, rfl⟩
  · obtain ⟨n, rfl⟩ : ∃ n : Nat, i = n := ⟨i.toNat, by omega⟩
    rw [read_in D n (by omega), readE_in n (by omega)]
    have s1 := row_at h.is n (by rw [h.good.wl]; omega)
    generalize D.wr.getD n ByteArray.empty = s at *
    go_enter Tryz.func69, Tryz.ntmps69
    go_wp2
    go_ret2
    exact ⟨rfl, rfl⟩
theorem ecrash_any (w : World) (B b : Nat) (D : Dsk) (vw vi vc : Value) (cl fk : Int) (kp0 keep : Nat) (hk : keep < 18446744073709551616) (hB : B ≤ b) (h : RAt w b D vw vi vc cl fk kp0) (hinv : Inv D) :
    Calls Tryz.prog 18 #[.pointer (some ⟨b, 0, none⟩), .int .u64 (keep : Int)] w fun e w' => e = .returned (.tuple #[]) ∧ RNext B b vw vi vc (D.crash keep) w w' := by
  cases hd : D.dead
  · rw [show D.crash keep = D.lose keep by simp [Dsk.crash, hd]]
    exact elose_any w B b D vw vi vc cl fk kp0 keep hk hB h hinv hd
  · rw [show D.crash keep = D by simp [Dsk.crash, hd]]
    have c9 := h.cell 9 _ rfl
    rw [hd] at c9
    go_enter Tryz.func18, Tryz.ntmps18
    go_wp2
    exact bodyPost_ret (results_none rfl _ _ _) rfl ⟨rfl, RNext.refl h⟩
theorem epower_any (w : World) (B b : Nat) (D : Dsk) (vw vi vc : Value) (cl fk : Int) (kp0 : Nat) (hB : B ≤ b) (h : RAt w b D vw vi vc cl fk kp0) :
    Calls Tryz.prog 22 #[.pointer (some ⟨b, 0, none⟩)] w fun e w' => e = .returned (.tuple #[]) ∧ RNext B b vw vi vc D.power w w' := by
  have c4 := h.cell 4 _ rfl
  have c5 := h.cell 5 _ rfl
  have c6 := h.cell 6 _ rfl
  have c7 := h.cell 7 _ rfl
  have c9 := h.cell 9 _ rfl
  have c10 := h.cell 10 _ rfl
  have fr := h.free
  have o1 := own_ne h.was h.blk (by decide)
  have o2 := own_ne h.is h.blk (by decide)
  have o3 := own_ne h.ca h.blk (by decide)
  have hfin : RNext B b vw vi vc D.power w ((((((w.setCell ⟨b, 9, none⟩ (.bool false)).setCell ⟨b, 10, none⟩ (.bool false)).setCell ⟨b, 4, none⟩ (.bool false)).setCell ⟨b, 5, none⟩ (.int .i64 0)).setCell ⟨b, 6, none⟩ (.bool false)).setCell ⟨b, 7, none⟩ (.int .i64 0)) := by
    refine ⟨vc, 0, 0, kp0, ⟨?_, ?_, ?_, ?_, h.ne, h.good.power, by simp [Dsk.power, Dsk.forget], by simp [Dsk.power, Dsk.forget], h.kp⟩, fun g hg => Or.inl hg, ((((((Kf.refl _ _ _).set (Or.inl rfl) hB _).set (Or.inl rfl) hB _).set (Or.inl rfl) hB _).set (Or.inl rfl) hB _).set (Or.inl rfl) hB _).set (Or.inl rfl) hB _⟩
    · rw [set_at (set_at (set_at (set_at (set_at (set_at h.blk)))))]
      simp [rlist, Dsk.power, Dsk.forget]
    · exact ownsRow_setCell_other (ownsRow_setCell_other (ownsRow_setCell_other (ownsRow_setCell_other (ownsRow_setCell_other (ownsRow_setCell_other h.was o1 _) o1 _) o1 _) o1 _) o1 _) o1 _
    · exact ownsRow_setCell_other (ownsRow_setCell_other (ownsRow_setCell_other (ownsRow_setCell_other (ownsRow_setCell_other (ownsRow_setCell_other h.is o2 _) o2 _) o2 _) o2 _) o2 _) o2 _
    · exact ownsRow_setCell_other (ownsRow_setCell_other (ownsRow_setCell_other (ownsRow_setCell_other (ownsRow_setCell_other (ownsRow_setCell_other h.ca o3 _) o3 _) o3 _) o3 _) o3 _) o3 _
  go_enter Tryz.func22, Tryz.ntmps22
  go_wp2
  exact bodyPost_end (results_none rfl _ _ _) rfl ⟨rfl, hfin⟩
theorem efail_any (w : World) (B b : Nat) (D : Dsk) (vw vi vc : Value) (cl fk : Int) (kp0 : Nat) (n : Int) (hn : -9223372036854775808 ≤ n ∧ n < 9223372036854775808) (hB : B ≤ b) (h : RAt w b D vw vi vc cl fk kp0) :
    Calls Tryz.prog 16 #[.pointer (some ⟨b, 0, none⟩), .int .i64 n] w fun e w' => e = .returned (.tuple #[]) ∧ RNext B b vw vi vc (D.fail n) w w' := by
  have c6 := h.cell 6 _ rfl
  have c7 := h.cell 7 _ rfl
  have fr := h.free
  have o1 := own_ne h.was h.blk (by decide)
  have o2 := own_ne h.is h.blk (by decide)
  have o3 := own_ne h.ca h.blk (by decide)
  have hfin : ∀ q : Int, q = n.toNat → RNext B b vw vi vc (D.fail n) w ((w.setCell ⟨b, 6, none⟩ (.bool true)).setCell ⟨b, 7, none⟩ (.int .i64 q)) := by
    rintro q rfl
    refine ⟨vc, cl, n.toNat, kp0, ⟨?_, ownsRow_setCell_other (ownsRow_setCell_other h.was o1 _) o1 _, ownsRow_setCell_other (ownsRow_setCell_other h.is o2 _) o2 _, ownsRow_setCell_other (ownsRow_setCell_other h.ca o3 _) o3 _, h.ne, h.good.fail n hn.2, h.cl, fun _ => rfl, h.kp⟩, fun g hg => Or.inl hg, ((Kf.refl _ _ _).set (Or.inl rfl) hB _).set (Or.inl rfl) hB _⟩
    rw [set_at (set_at h.blk)]
    rfl
  have HF := hid hfin
  clear hfin
  rcases (show n < 0 ∨ 0 < n ∨ n ≤ 0 ∧ 0 ≤ n by omega) with hs | hs | ⟨hs, hs'⟩
  all_goals
    go_enter Tryz.func16, Tryz.ntmps16
    go_wp2
    exact bodyPost_end (results_none rfl _ _ _) rfl ⟨rfl, HF.out _ (by omega)⟩
theorem ecut_any (w : World) (B b : Nat) (D : Dsk) (vw vi vc : Value) (cl fk : Int) (kp0 : Nat) (n : Int) (keep : Nat) (hn : -9223372036854775808 ≤ n ∧ n < 9223372036854775808) (hk : keep < 18446744073709551616) (hB : B ≤ b) (h : RAt w b D vw vi vc cl fk kp0) :
    Calls Tryz.prog 14 #[.pointer (some ⟨b, 0, none⟩), .int .i64 n, .int .u64 (keep : Int)] w fun e w' => e = .returned (.tuple #[]) ∧ RNext B b vw vi vc (D.cut n keep) w w' := by
  have c4 := h.cell 4 _ rfl
  have c5 := h.cell 5 _ rfl
  have c8 := h.cell 8 _ rfl
  have fr := h.free
  have o1 := own_ne h.was h.blk (by decide)
  have o2 := own_ne h.is h.blk (by decide)
  have o3 := own_ne h.ca h.blk (by decide)
  have hfin : ∀ q : Int, q = n.toNat → RNext B b vw vi vc (D.cut n keep) w (((w.setCell ⟨b, 4, none⟩ (.bool true)).setCell ⟨b, 5, none⟩ (.int .i64 q)).setCell ⟨b, 8, none⟩ (.int .u64 (keep : Int))) := by
    rintro q rfl
    refine ⟨vc, n.toNat, fk, keep, ⟨?_, ownsRow_setCell_other (ownsRow_setCell_other (ownsRow_setCell_other h.was o1 _) o1 _) o1 _, ownsRow_setCell_other (ownsRow_setCell_other (ownsRow_setCell_other h.is o2 _) o2 _) o2 _, ownsRow_setCell_other (ownsRow_setCell_other (ownsRow_setCell_other h.ca o3 _) o3 _) o3 _, h.ne, h.good.cut n keep hn.2 hk, fun _ => ⟨rfl, rfl⟩, h.fk, hk⟩, fun g hg => Or.inl hg, (((Kf.refl _ _ _).set (Or.inl rfl) hB _).set (Or.inl rfl) hB _).set (Or.inl rfl) hB _⟩
    rw [set_at (set_at (set_at h.blk))]
    rfl
  have HF := hid hfin
  clear hfin
  rcases (show n < 0 ∨ 0 < n ∨ n ≤ 0 ∧ 0 ≤ n by omega) with hs | hs | ⟨hs, hs'⟩
  all_goals
    go_enter Tryz.func14, Tryz.ntmps14
    go_wp2
    exact bodyPost_end (results_none rfl _ _ _) rfl ⟨rfl, HF.out _ (by omega)⟩
end Go.Proofs.YtjldlmonccgopaaGreat
/- The document's disk: Write, Sync. -/
namespace Go.Proofs.YtjldlmonccgopaaGreat
open Go.RowKit
set_option linter.unusedVariables false
set_option maxRecDepth 100000
set_option linter.unusedSimpArgs false

theorem ewrite_out (D : Dsk) (i : Int) (s : ByteArray) (hi : i < 0 ∨ 256 ≤ i) : D.write i s = (D, 40) := by unfold Dsk.write; rw [if_pos hi]
theorem RAt.below {w w' : World} {b : Nat} {D : Dsk} {vw vi vc : Value} {cl fk : Int} {keep : Nat} (h : RAt w b D vw vi vc cl fk keep) (hb : Below w.heap.size w w') : RAt w' b D vw vi vc cl fk keep :=
  ⟨(hb.block b (lt_of_block h.blk)).trans h.blk, ownsRow_below h.was hb, ownsRow_below h.is hb, ownsRow_below h.ca hb, h.ne, h.good, h.cl, h.fk, h.kp⟩
theorem own_grown {w w' : World} {base : Nat} {e : TypeId} {v : Value} {n : Nat} {xs : List Value} {row : Option Nat} (h : w.ownsRow base e 1 v n xs) (hg : w.grownBy w' row) (hne : ∀ g, v.ownBlock = some g → row ≠ some g) : w'.ownsRow base e 1 v n xs := by
  obtain ⟨h1, h2⟩ := h
  refine ⟨h1, ?_⟩
  rcases h2 with h2 | ⟨g, cap, cur, hv, hb, hh, r⟩
  · exact Or.inl h2
  · exact Or.inr ⟨g, cap, cur, hv, hb, (hg.block g (lt_of_block hh) (fun x => hne g (by rw [hv]; rfl) x.symm)).trans hh, r⟩
set_option maxHeartbeats 4000000 in
theorem ewrite_in (w : World) (B b : Nat) (D : Dsk) (vw vi vc : Value) (cl fk : Int) (keep : Nat) (i : Nat) (s : ByteArray) (ho : D.ops < 4611686018427387904) (hB : B ≤ b) (hi : i < 256) (hs : s.size ≤ 256) (h : RAt w b D vw vi vc cl fk keep) (hinv : Inv D) :
    Calls Tryz.prog 20 #[.pointer (some ⟨b, 0, none⟩), .int .i64 (i : Int), .string s] w fun e w' => e = .returned (.int .i64 (D.write i s).2) ∧ RNext B b vw vi vc (D.write i s).1 w w' := by
  have HE := hid (write_begin D i s hi hs)
  have hs' : ¬ (256 : Int) < (s.size : Int) := by omega
  obtain ⟨i0, hi0, hz0, hz1, hz2⟩ := info_parts Tryz.info3
  go_enter Tryz.func20, Tryz.ntmps20
  go_wp2_with fail
  refine (raw_any w B b D vw vi vc cl fk keep ho hB h hinv).mono ?_
  rintro e w1 ⟨rfl, vc1, cl1, fk1, keep1, h1, hso, k1⟩
  generalize D.begin = DB at *
  obtain ⟨D1, e1⟩ := DB
  simp only at h1 HE ⊢
  have hsz := k1.size
  by_cases he : e1 = 0
  · subst he
    obtain ⟨gi, ci, rfl, hi1, hi2⟩ := own_pos h1.is (by omega)
    obtain ⟨sa, sc, rfl⟩ := own_slice h1.ca
    have Bi : B ≤ gi := Nat.le_trans hB (h1.is.lt gi rfl).1
    have c1 := h1.cell 1 _ rfl
    have st := row_at h1.is i (by rw [h1.good.wl]; exact hi)
    have f1 := h1.is.frozenAt i
    have h2 := h1.set_is i s
    have k2 := k1.set (k := i) (b := gi) (Or.inr (Or.inr (Or.inl rfl))) Bi (.string s)
    generalize D1.wr.getD i ByteArray.empty = old at *
    have hsm := h1.good.small
    have G := hid (h1.good.put i hi s)
    have HSO := hid hso
    have hsz2 : w.heap.size ≤ (w1.setCell ⟨gi, i, none⟩ (.string s)).heap.size := k2.size
    clear hso
    go_wp2
    clear c1 st f1 h1 k1 hsz
    generalize w1.setCell ⟨gi, i, none⟩ (.string s) = w2 at *
    go_loop [8] (fun j => ∃ k : Nat, k ≤ D1.ca.length ∧ j = .int .i64 k ∧ i ∉ D1.ca.take k) (fun j => D1.ca.length - (intOf j).toNat)
    case atStart => exact ⟨0, Nat.zero_le _, rfl, by simp⟩
    case round =>
      obtain ⟨k, hk, rfl, hno⟩ := hrel
      have HNO := hid hno
      clear hno
      have c2 := h2.cell 2 _ rfl
      by_cases hlt : k < D1.ca.length
      · obtain ⟨gc, cc, hsv, hc1, hc2⟩ := own_pos h2.ca (by show 0 < D1.ca.length; omega)
        simp only [Value.slice.injEq] at hsv
        obtain ⟨rfl, _, rfl⟩ := hsv
        have hx := ints_at h2.ca k hlt
        simp only at hx c2
        by_cases hxe : D1.ca.getD k 0 = i
        · have hm : i ∈ D1.ca := mem_getD.2 ⟨k, hlt, hxe⟩
          have hfin : RNext B b vw (.slice (some ⟨gi, 0, none⟩) 256 ci) vc (D1.put i s) w w2 := ⟨_, _, _, _, by
            rw [show (D1.put i s) = { D1 with wr := D1.wr.set i s } by simp [Dsk.put, hm]]
            exact h2, HSO.out, k2⟩
          rw [hxe] at hx
          clear hm hxe
          go_wp2
          go_ret
          rw [HE.out]
          exact ⟨rfl, hfin⟩
        · have hb : ((D1.ca.getD k 0 : Int) == (i : Int)) = false := beq_eq_false_iff_ne.2 (by omega)
          have HN2 := hid (show i ∉ D1.ca.take (k + 1) by
            rw [take_snoc hlt, List.mem_append]
            rintro (h | h)
            · exact HNO.out h
            · simp at h; exact hxe (by simpa using h.symm))
          generalize hq : D1.ca.getD k 0 = x at hx hb
          clear hq hxe
          go_wp2
          go_round
          case rel => exact ⟨k + 1, by omega, by go_num, HN2.out⟩
          case measure => simp [intOf]; omega
      · have hk' : k = D1.ca.length := by omega
        have hn : i ∉ D1.ca := by have := HNO.out; rwa [hk', List.take_length] at this
        have HN := hid hn
        clear hn hk'
        have hbw : b < w2.heap.size := lt_of_block h2.blk
        have r2 := h2.below (w' := w2.alloc (.cells #[.int .i64 (i : Int)] 3)) ((Below.refl _ _).alloc (Nat.le_refl _) _)
        have k3 := k2.alloc (by omega) (.cells #[.int .i64 (i : Int)] 3)
        have o2 := r2.ca
        simp only at c2 o2
        go_wp2_with (at_builtin; refine wpList_append_own_at _ rfl _ _ 53 rfl b 3 i0 (.int .i64 0) 1 8 Tryz.underlying53 hi0 hz0 hz1 hz2 rfl (by decide) _ _ _ rfl o2 ⟨w2.heap.size, 0, none⟩ 1 1 [.int .i64 (i : Int)] rfl rfl (by intro j u hu; match j, hu with | 0, hu => simp at hu; subst hu; simp [Addr.add]) (by intro u hu; simp at hu; subst hu; rfl) (by unfold maxLen; omega) (by omega) (by simp; omega) ?_)
        intro v' w3 hown3 hgrow hnil hwhere
        rw [show ints D1.ca ++ [.int .i64 (i : Int)] = ints (D1.ca ++ [i]) from (ints_app _ _).symm] at hown3
        have e3 := (hgrow.block b (by simp; omega) (fun e => own_ne o2 r2.blk (by decide) e.symm)).trans r2.blk
        have k4 := k3.grown hgrow (by simp; omega) (fun q hq => Nat.le_trans hB (o2.lt q hq).1) (fun q hq => by
          rcases HSO.out q hq with e | e
          · exact Or.inl (Or.inr (Or.inr (Or.inr e)))
          · exact Or.inr e)
        have ow := own_grown r2.was hgrow (fun g hg => two_rows r2.was o2 (by decide) g hg)
        have oi := own_grown r2.is hgrow (fun g hg => two_rows r2.is o2 (by decide) g hg)
        have hnew : ∀ g, v'.ownBlock = some g → vc.ownBlock = some g ∨ w.heap.size ≤ g := by
          intro g hg
          rcases hwhere with e | e
          · exact HSO.out g (by rw [← e]; exact hg)
          · right; rw [e] at hg; simp at hg; omega
        have hfin : RNext B b vw (.slice (some ⟨gi, 0, none⟩) 256 ci) vc (D1.put i s) w (w3.setCell ⟨b, 2, none⟩ v') := by
          have E : D1.put i s = { D1 with wr := D1.wr.set i s, ca := D1.ca ++ [i] } := by simp [Dsk.put, HN.out]
          have G' := G.out
          rw [E] at G' ⊢
          refine ⟨v', cl1, fk1, keep1, ⟨?_, ownsRow_setCell_other ow (own_ne ow e3 (by decide)) _, ownsRow_setCell_other oi (own_ne oi e3 (by decide)) _, ?_, r2.ne, G', r2.cl, r2.fk, r2.kp⟩, hnew, k4.set (Or.inl rfl) hB _⟩
          · rw [set_at e3]; rfl
          · rw [List.length_append]; exact ownsRow_setCell_other hown3 (own_ne hown3 e3 (by decide)) _
        have c5 : w3.cell? ⟨b, 2, none⟩ = some (.slice sa D1.ca.length sc) := cell_at e3 2 _ rfl
        have f5 := free_at e3
        obtain ⟨va, vcp, rfl⟩ := own_slice hown3
        clear c2 h2 k2 k3 r2 o2 hown3 hgrow hnil hwhere hnew e3 k4 ow oi G HSO
        go_wp2
        go_ret
        rw [HE.out]
        exact ⟨rfl, hfin⟩
  · rw [if_neg he] at HE
    have he' : (e1 == 0) = false := beq_eq_false_iff_ne.2 he
    go_wp2
    go_ret
    rw [HE.out]
    exact ⟨rfl, vc1, cl1, fk1, keep1, h1, hso, k1⟩
theorem ewrite_any (w : World) (B b : Nat) (D : Dsk) (vw vi vc : Value) (cl fk : Int) (keep : Nat) (i : Int) (s : ByteArray) (ho : D.ops < 4611686018427387904) (hB : B ≤ b) (h : RAt w b D vw vi vc cl fk keep) (hinv : Inv D) :
    Calls Tryz.prog 20 #[.pointer (some ⟨b, 0, none⟩), .int .i64 i, .string s] w fun e w' => e = .returned (.int .i64 (D.write i s).2) ∧ RNext B b vw vi vc (D.write i s).1 w w' := by
  rcases (show i < 0 ∨ (0 ≤ i ∧ 256 ≤ i) ∨ (0 ≤ i ∧ i < 256) by omega) with hi | ⟨hi, hi'⟩ | ⟨hi, hi'⟩
  · rw [ewrite_out D i s (Or.inl hi)]
    go_enter Tryz.func20, Tryz.ntmps20
    go_wp2
    go_ret
    exact ⟨rfl, RNext.refl h⟩
  · rw [ewrite_out D i s (Or.inr hi')]
    go_enter Tryz.func20, Tryz.ntmps20
    go_wp2
    go_ret
    exact ⟨rfl, RNext.refl h⟩
  · obtain ⟨n, rfl⟩ : ∃ n : Nat, i = n := ⟨i.toNat, by omega⟩
    by_cases hs : 256 < s.size
    · rw [write_big D n s (by omega) hs]
      have hs' : (256 : Int) < (s.size : Int) := by omega
      go_enter Tryz.func20, Tryz.ntmps20
      go_wp2
      go_ret
      exact ⟨rfl, RNext.refl h⟩
    · exact ewrite_in w B b D vw vi vc cl fk keep n s ho hB (by omega) (by omega) h hinv
/-- What lasts when k cached sectors were made to. -/
def WasMid (D : Dsk) (k : Nat) (X : List ByteArray) : Prop := X.length = 256 ∧ ∀ i, i < 256 → X.getD i ByteArray.empty = if i ∈ D.ca.take k then D.wr.getD i ByteArray.empty else D.la.getD i ByteArray.empty
theorem wmid_start {D : Dsk} (h : D.Good) : WasMid D 0 D.la := ⟨h.ll, fun i hi => by simp⟩
theorem wmid_step {D : Dsk} {k : Nat} {X : List ByteArray} (h : WasMid D k X) (hg : D.Good) (hk : k < D.ca.length) : WasMid D (k + 1) (X.set (D.ca.getD k 0) (D.wr.getD (D.ca.getD k 0) ByteArray.empty)) := by
  have hlt : D.ca.getD k 0 < 256 := hg.lt _ (mem_getD.2 ⟨k, hk, rfl⟩)
  refine ⟨by rw [List.length_set]; exact h.1, fun i hi => ?_⟩
  rw [take_snoc hk, getD_set (by rw [h.1]; exact hlt)]
  by_cases hx : i = D.ca.getD k 0
  · rw [hx, if_pos rfl, if_pos (by simp)]
  · rw [if_neg hx, h.2 i hi]
    by_cases hm : i ∈ D.ca.take k
    · rw [if_pos hm, if_pos (by simp [hm])]
    · rw [if_neg hm, if_neg (by rw [List.mem_append]; rintro (h | h); exact hm h; simp at h; exact hx (by simpa using h))]
theorem wmid_end {D : Dsk} {X : List ByteArray} (h : WasMid D D.ca.length X) (hi : Inv D) (hg : D.Good) : X = D.wr := by
  refine ext_getD h.1 hg.wl fun i hlt => ?_
  rw [h.2 i hlt, List.take_length]
  split
  · rfl
  · rename_i hn
    rw [hi i hlt hn]
set_option maxHeartbeats 4000000 in
theorem esync_any (w : World) (B b : Nat) (D : Dsk) (vw vi vc : Value) (cl fk : Int) (keep : Nat) (ho : D.ops < 4611686018427387904) (hB : B ≤ b) (h : RAt w b D vw vi vc cl fk keep) (hinv : Inv D) :
    Calls Tryz.prog 98 #[.pointer (some ⟨b, 0, none⟩)] w fun e w' => e = .returned (.int .i64 D.sync.2) ∧ RNext B b vw vi vc D.sync.1 w w' := by
  have HE := hid (show D.sync = if D.begin.2 = 0 then (D.begin.1.synced, 0) else D.begin from rfl)
  have HI := hid hinv.begin
  go_enter Tryz.func98, Tryz.ntmps98
  go_wp2_with fail
  refine (raw_any w B b D vw vi vc cl fk keep ho hB h hinv).mono ?_
  rintro e w1 ⟨rfl, vc1, cl1, fk1, keep1, h1, hso, k1⟩
  generalize D.begin = DB at *
  obtain ⟨D1, e1⟩ := DB
  simp only at h1 HE HI ⊢
  by_cases he : e1 = 0
  · subst he
    obtain ⟨gw, cw, rfl, hw1, hw2⟩ := own_pos h1.was (by omega)
    obtain ⟨gi, ci, rfl, hi1, hi2⟩ := own_pos h1.is (by omega)
    have Bw : B ≤ gw := Nat.le_trans hB (h1.was.lt gw rfl).1
    obtain ⟨sa, sc, rfl⟩ := own_slice h1.ca
    have hsm := h1.good.small
    have hG := h1.good
    have HSO := hid hso
    clear hso h
    go_wp2
    go_loopw [4] (fun i W => ∃ (k : Nat) (X : List ByteArray), k ≤ D1.ca.length ∧ i = .int .i64 k ∧ WasMid D1 k X ∧ RAt W b { D1 with la := X } (.slice (some ⟨gw, 0, none⟩) 256 cw) (.slice (some ⟨gi, 0, none⟩) 256 ci) (.slice sa D1.ca.length sc) cl1 fk1 keep1 ∧ Kf (Sr b (.slice (some ⟨gw, 0, none⟩) 256 cw) (.slice (some ⟨gi, 0, none⟩) 256 ci) vc) B w W) (fun i _ => D1.ca.length - (intOf i).toNat)
    case atStart => exact ⟨0, D1.la, Nat.zero_le _, rfl, wmid_start hG, h1, k1⟩
    case round =>
      obtain ⟨k, X, hkl, rfl, hmid, hd1, kp⟩ := hrel
      clear h1 k1
      have c2 := hd1.cell 2 _ rfl
      have HM := hid hmid
      clear hmid
      by_cases hlt : k < D1.ca.length
      · obtain ⟨gc, cc, hsv, hc1, hc2⟩ := own_pos hd1.ca (by show 0 < D1.ca.length; omega)
        simp only [Value.slice.injEq] at hsv
        obtain ⟨rfl, _, rfl⟩ := hsv
        have hx := ints_at hd1.ca k hlt
        simp only at hx
        have hmem : D1.ca.getD k 0 < 256 := hd1.good.lt _ (mem_getD.2 ⟨k, hlt, rfl⟩)
        have c0 := hd1.cell 0 _ rfl
        have c1 := hd1.cell 1 _ rfl
        have hwl := hd1.good.wl
        have hll := hd1.good.ll
        simp only at hwl hll
        have s1 := row_at hd1.is (D1.ca.getD k 0) (by simp only; omega)
        have s0 := row_at hd1.was (D1.ca.getD k 0) (by simp only; omega)
        simp only at s0 s1
        have f0 := hd1.was.frozenAt (D1.ca.getD k 0)
        have HN := hid (wmid_step HM.out hG hlt)
        have hd2 := (hd1.set_was (D1.ca.getD k 0) (D1.wr.getD (D1.ca.getD k 0) ByteArray.empty)).drew
        have kp2 := (kp.set (k := D1.ca.getD k 0) (b := gw) (Or.inr (Or.inl rfl)) Bw (.string (D1.wr.getD (D1.ca.getD k 0) ByteArray.empty))).drew
        clear HM
        generalize D1.ca.getD k 0 = x at *
        generalize D1.wr.getD x ByteArray.empty = p1 at *
        generalize X.getD x ByteArray.empty = p0 at *
        go_wp2
        go_region
        generalize (wr.setCell ⟨gw, x, none⟩ (.string p1)).drew = wq at *
        clear hd1 kp c0 c1 c2 s0 s1 f0 hx
        go_wp2
        go_roundw
        case rel => exact ⟨k + 1, X.set x p1, by omega, by go_num, HN.out, hd2, kp2⟩
        case measure => simp [intOf]; omega
      · have hk' : k = D1.ca.length := by omega
        subst hk'
        have hX := wmid_end HM.out HI.out hG
        subst hX
        have fr := hd1.free
        have hfin : RNext B b (.slice (some ⟨gw, 0, none⟩) 256 cw) (.slice (some ⟨gi, 0, none⟩) 256 ci) vc D1.synced w (wr.setCell ⟨b, 2, none⟩ (.slice none 0 0)) :=
          ⟨.slice none 0 0, cl1, fk1, keep1, ⟨set_at hd1.blk, ownsRow_setCell_other hd1.was (own_ne hd1.was hd1.blk (by decide)) _, ownsRow_setCell_other hd1.is (own_ne hd1.is hd1.blk (by decide)) _, World.ownsRow_nil _ _ _ _, hd1.ne, hG.synced, hd1.cl, hd1.fk, hd1.kp⟩, fun g hg => by simp [Value.ownBlock] at hg, kp.set (Or.inl rfl) hB _⟩
        go_wp2
        go_ret
        rw [HE.out]
        exact ⟨rfl, hfin⟩
  · rw [if_neg he] at HE
    have he' : (e1 == 0) = false := beq_eq_false_iff_ne.2 he
    go_wp2
    go_ret
    rw [HE.out]
    exact ⟨rfl, vc1, cl1, fk1, keep1, h1, hso, k1⟩
end Go.Proofs.YtjldlmonccgopaaGreat
/- The document's disk: New. -/
namespace Go.Proofs.YtjldlmonccgopaaGreat
open Go.RowKit
set_option linter.unusedVariables false
set_option maxRecDepth 100000
set_option linter.unusedSimpArgs false

/-- The disk while its sectors are laid: k of them. -/
structure Laying (w : World) (b k m : Nat) (vw vi : Value) : Prop where
  blk : w.heap[b]? = some (.cells (rlist Dsk.new vw vi (.slice none 0 0) 0 0 0).toArray 62 (0, 0))
  was : w.ownsRow b 9 1 vw k (strs (List.replicate k ByteArray.empty))
  is : w.ownsRow b 9 1 vi m (strs (List.replicate m ByteArray.empty))
  ne : ∀ g, vw.ownBlock = some g → vi.ownBlock ≠ some g
theorem estr_info : (Tryz.prog.info? 9).map (fun i => (i.zero, i.size, i.bytes)) = some (some (.string ByteArray.empty), 1, 16) := by kernel_rfl
theorem Laying.alloc {w : World} {b k m : Nat} {vw vi : Value} (h : Laying w b k m vw vi) (o : Obj) : Laying (w.alloc o) b k m vw vi :=
  ⟨(Below.heap_alloc w o b (lt_of_block h.blk)).trans h.blk, h.was.alloc o, h.is.alloc o, h.ne⟩
theorem rep_snoc (k : Nat) : strs (List.replicate k ByteArray.empty) ++ [.string ⟨#[]⟩] = strs (List.replicate (k + 1) ByteArray.empty) := by
  rw [List.replicate_succ', strs, strs, List.map_append]; rfl
theorem Laying.more_was {w w3 : World} {b k m : Nat} {vw vi v' : Value} (h : Laying w b k m vw vi) (hown : w3.ownsRow b 9 1 v' (k + 1) (strs (List.replicate k ByteArray.empty) ++ [.string ⟨#[]⟩])) (hg : w.grownBy w3 vw.ownBlock) (hw : v'.ownBlock = vw.ownBlock ∨ v'.ownBlock = some w.heap.size) : Laying (w3.setCell ⟨b, 0, none⟩ v') b (k + 1) m v' vi ∧ w3.heap[b]? = some (.cells (rlist Dsk.new vw vi (.slice none 0 0) 0 0 0).toArray 62 (0, 0)) := by
  have e3 := (hg.block b (lt_of_block h.blk) (fun e => own_ne h.was h.blk (by decide) e.symm)).trans h.blk
  rw [rep_snoc] at hown
  have oi := own_grown h.is hg (fun g hg' e => h.ne g e hg')
  refine ⟨⟨by rw [set_at e3]; rfl, ownsRow_setCell_other hown (own_ne hown e3 (by decide)) _, ownsRow_setCell_other oi (own_ne oi e3 (by decide)) _, fun g hg' => ?_⟩, e3⟩
  rcases hw with e | e
  · exact h.ne g (by rw [← e]; exact hg')
  · rw [e] at hg'
    simp only [Option.some.injEq] at hg'
    intro e2
    obtain ⟨c, fz, hc⟩ := own_kind h.is g e2
    have := lt_of_block hc
    omega
theorem Laying.more_is {w w3 : World} {b k m : Nat} {vw vi v' : Value} (h : Laying w b k m vw vi) (hown : w3.ownsRow b 9 1 v' (m + 1) (strs (List.replicate m ByteArray.empty) ++ [.string ⟨#[]⟩])) (hg : w.grownBy w3 vi.ownBlock) (hw : v'.ownBlock = vi.ownBlock ∨ v'.ownBlock = some w.heap.size) : Laying (w3.setCell ⟨b, 1, none⟩ v') b k (m + 1) vw v' ∧ w3.heap[b]? = some (.cells (rlist Dsk.new vw vi (.slice none 0 0) 0 0 0).toArray 62 (0, 0)) := by
  have e3 := (hg.block b (lt_of_block h.blk) (fun e => own_ne h.is h.blk (by decide) e.symm)).trans h.blk
  rw [rep_snoc] at hown
  have ow := own_grown h.was hg (fun g hg' e => h.ne g hg' e)
  refine ⟨⟨by rw [set_at e3]; rfl, ownsRow_setCell_other ow (own_ne ow e3 (by decide)) _, ownsRow_setCell_other hown (own_ne hown e3 (by decide)) _, fun g hg' => ?_⟩, e3⟩
  rcases hw with e | e
  · rw [e]; exact h.ne g hg'
  · rw [e]
    simp only [ne_eq, Option.some.injEq]
    intro e2
    obtain ⟨c, fz, hc⟩ := own_kind h.was g hg'
    have := lt_of_block hc
    omega
theorem Laying.done {w : World} {b : Nat} {vw vi : Value} (h : Laying w b 256 256 vw vi) : RAt w b Dsk.new vw vi (.slice none 0 0) 0 0 0 :=
  ⟨h.blk, h.was, h.is, World.ownsRow_nil _ _ _ _, by
    obtain ⟨g, cap, rfl, _⟩ := own_pos h.was (by omega)
    intro e
    exact h.ne g rfl e.symm, Dsk.good_new, (fun e => absurd e (by decide)), (fun e => absurd e (by decide)), by omega⟩
theorem new_cell (w : World) (p : Addr) (v x : Value) (t : TypeId) : ((w.setCell p v).alloc (.cells #[x] t)).cell? ⟨w.heap.size, 0, none⟩ = some x := by
  refine cell_at (L := [x]) (t := t) (fz := (0, 0)) ?_ 0 _ rfl
  rw [show w.heap.size = (w.setCell p v).heap.size by simp [World.setCell]]
  exact heap_alloc_last _ _
set_option maxHeartbeats 4000000 in
theorem enew_any (w : World) :
    Calls Tryz.prog 6 #[] w fun e w' => e = .returned (.pointer (some ⟨w.heap.size, 0, none⟩)) ∧ (∃ vw vi, RAt w' w.heap.size Dsk.new vw vi (.slice none 0 0) 0 0 0) ∧ Below w.heap.size w w' := by
  obtain ⟨i0, hi0, hz0, hz1, hz2⟩ := info_parts estr_info
  go_enter Tryz.func6, Tryz.ntmps6
  go_wp2
  have h0 : Laying (w.alloc (.cells (rlist Dsk.new (.slice none 0 0) (.slice none 0 0) (.slice none 0 0) 0 0 0).toArray 62)) w.heap.size 0 0 (.slice none 0 0) (.slice none 0 0) :=
    ⟨heap_alloc_last w _, World.ownsRow_nil _ _ _ _, World.ownsRow_nil _ _ _ _, fun g hg => by simp [Value.ownBlock] at hg⟩
  have b0 : Below w.heap.size w (w.alloc (.cells (rlist Dsk.new (.slice none 0 0) (.slice none 0 0) (.slice none 0 0) 0 0 0).toArray 62)) := (Below.refl _ _).alloc (Nat.le_refl _) _
  go_loopw [2] (fun i W => ∃ (k : Nat) (vw vi : Value), k ≤ 256 ∧ i = .int .i64 k ∧ Laying W w.heap.size k k vw vi ∧ Below w.heap.size w W) (fun i _ => 256 - (intOf i).toNat)
  case atStart => exact ⟨0, _, _, Nat.zero_le _, rfl, h0, b0⟩
  case round =>
    obtain ⟨k, vw, vi, hk, rfl, hl, hb⟩ := hrel
    clear h0 b0
    have hsz := hb.size
    have hbl := lt_of_block hl.blk
    by_cases hlt : k < 256
    · have c0 := cell_at hl.blk 0 _ rfl
      have hla := hl.alloc (.cells #[.string ⟨#[]⟩] 9)
      have hba := hb.alloc hsz (.cells #[.string ⟨#[]⟩] 9)
      go_wp2_with (at_builtin; refine wpList_append_own_at _ rfl _ _ 58 rfl w.heap.size 9 i0 (.string ByteArray.empty) 1 16 Tryz.underlying58 hi0 hz0 hz1 hz2 rfl (by decide) _ _ _ rfl hla.was ⟨wr.heap.size, 0, none⟩ 1 1 [.string ⟨#[]⟩] rfl rfl (by intro j u hu; match j, hu with | 0, hu => simp at hu; subst hu; simp [Addr.add]) (by intro u hu; simp at hu; subst hu; rfl) (by unfold maxLen; omega) (by omega) (by simp; omega) ?_)
      intro v' w3 hown3 hgrow hnil hwhere
      obtain ⟨va, vcp, rfl⟩ := own_slice hown3
      obtain ⟨hl3, e3⟩ := hla.more_was hown3 hgrow (by simpa using hwhere)
      have hb3 := (hba.grown hgrow (by simp; omega) (fun q hq => (hla.was.lt q hq).1)).setCell (p := ⟨w.heap.size, 0, none⟩) (Nat.le_refl _) (.slice va (k + 1) vcp)
      have d0 := cell_at e3 0 _ rfl
      have f3 := free_at e3
      have d1 := cell_at hl3.blk 1 _ rfl
      have hsz3 := hb3.size
      have hbl3 := lt_of_block hl3.blk
      have hlb := hl3.alloc (.cells #[.string ⟨#[]⟩] 9)
      have hbb := hb3.alloc hsz3 (.cells #[.string ⟨#[]⟩] 9)
      have hcn := new_cell w3 ⟨w.heap.size, 0, none⟩ (.slice va (k + 1) vcp) (.string ⟨#[]⟩) 9
      clear hla hba hown3 hgrow hnil hwhere c0 hl hb e3
      go_wp2_with (at_builtin; refine wpList_append_own_at _ rfl _ _ 58 rfl w.heap.size 9 i0 (.string ByteArray.empty) 1 16 Tryz.underlying58 hi0 hz0 hz1 hz2 rfl (by decide) _ _ _ rfl hlb.is ⟨w3.heap.size, 0, none⟩ 1 1 [.string ⟨#[]⟩] rfl rfl (by intro j u hu; match j, hu with | 0, hu => simp at hu; subst hu; simpa [Addr.add] using hcn) (by intro u hu; simp at hu; subst hu; rfl) (by unfold maxLen; omega) (by omega) (by simp at hsz3 ⊢; omega) ?_)
      intro v' w4 hown4 hgrow hnil hwhere
      obtain ⟨vb, vcq, rfl⟩ := own_slice hown4
      obtain ⟨hl4, e4⟩ := hlb.more_is hown4 hgrow (by simpa using hwhere)
      have hb4 := (hbb.grown hgrow (by simp at hsz3 ⊢; omega) (fun q hq => (hlb.is.lt q hq).1)).setCell (p := ⟨w.heap.size, 1, none⟩) (Nat.le_refl _) (.slice vb (k + 1) vcq)
      have g1 := cell_at e4 1 _ rfl
      have f4 := free_at e4
      clear hlb hbb hown4 hgrow hnil hwhere d0 d1 f3 hl3 hb3 e4
      go_wp2
      go_roundw
      case rel => exact ⟨k + 1, _, _, by omega, by go_num, hl4, hb4⟩
      case measure => simp [intOf]; omega
    · go_wp2
      go_ret
      have hk' : k = 256 := by omega
      subst hk'
      exact ⟨rfl, ⟨vw, vi, hl.done⟩, hb⟩
end Go.Proofs.YtjldlmonccgopaaGreat
