/- The document's disk in memory, told by the same plain disk. -/
import Derived.Test.YthcefjkpiaecjaaDCalm
import Derived.Deep.Slices
import Derived.ProofKit
import Derived.Deep.RegionHeld3
import Derived.Deep.DrawnRows
namespace Go.Proofs.Ythcefjkpiaecjaa
open Go.RowKit
set_option linter.unusedVariables false
set_option maxRecDepth 100000
set_option linter.unusedSimpArgs false

theorem row_at {w : World} {base g n cap : Nat} {X : List ByteArray} (hown : w.ownsRow base 9 1 (.slice (some ⟨g, 0, none⟩) n cap) n (strs X)) (k : Nat) (hk : k < X.length) : w.cell? ⟨g, k, none⟩ = some (.string (X.getD k ByteArray.empty)) := by
  have hn : (strs X).length = n * 1 := hown.1
  have h := hown.cellAt k (by rw [← hn]; simpa [strs] using hk)
  rw [h]; simp [strs, hk]
/-- What is not cached is as it lasted. -/
def Inv (D : Dsk) : Prop := ∀ i, i < 256 → i ∉ D.ca → D.wr.getD i ByteArray.empty = D.la.getD i ByteArray.empty
def rlist (D : Dsk) (vw vi vc : Value) (cl fk : Int) (keep : Nat) : List Value := [vw, vi, vc, .int .i64 (D.ops : Int), .bool D.cg, .int .i64 cl, .bool D.fg, .int .i64 fk, .int .u64 (keep : Int), .bool D.dead, .bool D.fl]
structure RAt (w : World) (b : Nat) (D : Dsk) (vw vi vc : Value) (cl fk : Int) (keep : Nat) : Prop where
  blk : w.heap[b]? = some (.cells (rlist D vw vi vc cl fk keep).toArray 59 (0, 0))
  was : w.ownsRow b 9 1 vw 256 (strs D.la)
  is : w.ownsRow b 9 1 vi 256 (strs D.wr)
  ca : w.ownsRow b 3 1 vc D.ca.length (ints D.ca)
  ne : vw.ownBlock ≠ vi.ownBlock
  good : D.Good
  cl : D.cg = true → cl = D.cl ∧ keep = D.keep
  fk : D.fg = true → fk = D.fk
  kp : keep < 18446744073709551616
/-- The blocks of the document's disk. -/
def Sr (b : Nat) (vw vi vc : Value) : Nat → Prop := fun k => k = b ∨ vw.ownBlock = some k ∨ vi.ownBlock = some k ∨ vc.ownBlock = some k
theorem own_pos {w : World} {base : Nat} {e : TypeId} {v : Value} {n : Nat} {xs : List Value} (h : w.ownsRow base e 1 v n xs) (hn : 0 < n) : ∃ g cap, v = .slice (some ⟨g, 0, none⟩) n cap ∧ n ≤ cap ∧ cap ≤ 9223372036854775807 := by
  rcases own_form h with ⟨_, h0⟩ | ⟨g, cap, hv, h1, h2, _⟩
  · omega
  · unfold maxLen at h2; exact ⟨g, cap, hv, h1, by omega⟩
theorem RAt.cell {w : World} {b : Nat} {D : Dsk} {vw vi vc : Value} {cl fk : Int} {keep : Nat} (h : RAt w b D vw vi vc cl fk keep) (j : Nat) (v : Value) (hv : (rlist D vw vi vc cl fk keep)[j]? = some v) : w.cell? ⟨b, j, none⟩ = some v := cell_at h.blk j v hv
theorem RAt.free {w : World} {b : Nat} {D : Dsk} {vw vi vc : Value} {cl fk : Int} {keep : Nat} (h : RAt w b D vw vi vc cl fk keep) (j : Nat) : w.frozen? ⟨b, j, none⟩ = false := free_at h.blk j
/-- A store into the block of the disk itself. -/
theorem RAt.set {w : World} {b : Nat} {D D' : Dsk} {vw vi vc : Value} {cl fk cl' fk' : Int} {keep keep' : Nat} (h : RAt w b D vw vi vc cl fk keep) (j : Nat) (v : Value) (e : (rlist D vw vi vc cl fk keep).set j v = rlist D' vw vi vc cl' fk' keep') (e1 : D'.la = D.la) (e2 : D'.wr = D.wr) (e3 : D'.ca = D.ca) (hg : D'.Good) (hc : D'.cg = true → cl' = D'.cl ∧ keep' = D'.keep) (hf : D'.fg = true → fk' = D'.fk) (hk : keep' < 18446744073709551616) : RAt (w.setCell ⟨b, j, none⟩ v) b D' vw vi vc cl' fk' keep' :=
  ⟨by rw [← e]; exact set_at h.blk, by rw [e1]; exact ownsRow_setCell_other h.was (own_ne h.was h.blk (by decide)) v, by rw [e2]; exact ownsRow_setCell_other h.is (own_ne h.is h.blk (by decide)) v, by rw [e3]; exact ownsRow_setCell_other h.ca (own_ne h.ca h.blk (by decide)) v, h.ne, hg, hc, hf, hk⟩
theorem two_rows {w : World} {base base' : Nat} {e e' : TypeId} {v v' : Value} {n n' : Nat} {xs xs' : List Value} (h : w.ownsRow base e 1 v n xs) (h' : w.ownsRow base' e' 1 v' n' xs') (hne : e ≠ e') (g : Nat) (hg : v.ownBlock = some g) : v'.ownBlock ≠ some g := by
  obtain ⟨c, fz, hc⟩ := own_kind h g hg
  exact own_ne h' hc (fun x => hne x.symm)
theorem RAt.drew {w : World} {b : Nat} {D : Dsk} {vw vi vc : Value} {cl fk : Int} {keep : Nat} (h : RAt w b D vw vi vc cl fk keep) : RAt w.drew b D vw vi vc cl fk keep := ⟨h.blk, h.was.drew, h.is.drew, h.ca.drew, h.ne, h.good, h.cl, h.fk, h.kp⟩
/-- A sector of what lasts is stored. -/
theorem RAt.set_was {w : World} {b gw cw : Nat} {D : Dsk} {vi vc : Value} {cl fk : Int} {keep : Nat} (h : RAt w b D (.slice (some ⟨gw, 0, none⟩) 256 cw) vi vc cl fk keep) (i : Nat) (s : ByteArray) : RAt (w.setCell ⟨gw, i, none⟩ (.string s)) b { D with la := D.la.set i s } (.slice (some ⟨gw, 0, none⟩) 256 cw) vi vc cl fk keep := by
  have hb : b ≠ gw := fun e => own_ne h.was h.blk (by decide) (by simp [Value.ownBlock, e])
  refine ⟨(Below.heap_setCell w ⟨gw, i, none⟩ _ b hb).trans h.blk, ?_, ownsRow_setCell_other h.is (fun e => h.ne (by rw [e]; rfl)) _, ownsRow_setCell_other h.ca (two_rows h.was h.ca (by decide) gw rfl) _, h.ne, { h.good with ll := by simp [h.good.ll] }, h.cl, h.fk, h.kp⟩
  rw [show ∀ (X : List ByteArray) (i : Nat) (s : ByteArray), strs (X.set i s) = (strs X).set i (.string s) from fun X i s => by simp [strs, List.map_set]]
  exact (h.was.stored i (.string s)).1
theorem RAt.set_is {w : World} {b gi ci : Nat} {D : Dsk} {vw vc : Value} {cl fk : Int} {keep : Nat} (h : RAt w b D vw (.slice (some ⟨gi, 0, none⟩) 256 ci) vc cl fk keep) (i : Nat) (s : ByteArray) : RAt (w.setCell ⟨gi, i, none⟩ (.string s)) b { D with wr := D.wr.set i s } vw (.slice (some ⟨gi, 0, none⟩) 256 ci) vc cl fk keep := by
  have hb : b ≠ gi := fun e => own_ne h.is h.blk (by decide) (by simp [Value.ownBlock, e])
  refine ⟨(Below.heap_setCell w ⟨gi, i, none⟩ _ b hb).trans h.blk, ownsRow_setCell_other h.was (fun e => h.ne (by rw [e]; rfl)) _, ?_, ownsRow_setCell_other h.ca (two_rows h.is h.ca (by decide) gi rfl) _, h.ne, { h.good with wl := by simp [h.good.wl] }, h.cl, h.fk, h.kp⟩
  rw [show ∀ (X : List ByteArray) (i : Nat) (s : ByteArray), strs (X.set i s) = (strs X).set i (.string s) from fun X i s => by simp [strs, List.map_set]]
  exact (h.is.stored i (.string s)).1
theorem loseL_other (keep : Nat) (W : List ByteArray) (i : Nat) : ∀ (ca : List Nat) (k : Nat) (L : List ByteArray), i ∉ ca → (loseL keep W ca k L).getD i ByteArray.empty = L.getD i ByteArray.empty
  | [], _, _, _ => rfl
  | j :: is, k, L, h => by
    simp only [loseL]
    rw [loseL_other keep W i is (k + 1) _ (fun e => h (List.mem_cons_of_mem _ e))]
    split
    · have hij : j ≠ i := fun e => h (by rw [e]; exact List.mem_cons_self)
      simp [List.getD_eq_getElem?_getD, List.getElem?_set, hij]
    · rfl
theorem ext_getD {X Y : List ByteArray} (hx : X.length = 256) (hy : Y.length = 256) (h : ∀ i, i < 256 → X.getD i ByteArray.empty = Y.getD i ByteArray.empty) : X = Y := by
  apply List.ext_getElem (by rw [hx, hy])
  intro i h1 h2
  have := h i (by omega)
  simpa [List.getD_eq_getElem?_getD, h1, h2] using this
/-- What 'Is' is when k cached sectors were looked at. -/
def IsMid (D : Dsk) (keep k : Nat) (X : List ByteArray) : Prop := X.length = 256 ∧ ∀ i, i < 256 → X.getD i ByteArray.empty = if i ∈ D.ca.take k then (loseL keep D.wr (D.ca.take k) 0 D.la).getD i ByteArray.empty else D.wr.getD i ByteArray.empty
theorem mid_start {D : Dsk} (keep : Nat) (h : D.Good) : IsMid D keep 0 D.wr := ⟨h.wl, fun i hi => by simp⟩
theorem mid_end {D : Dsk} {keep : Nat} {X : List ByteArray} (h : IsMid D keep D.ca.length X) (hi : Inv D) (hg : D.Good) : X = loseL keep D.wr D.ca 0 D.la := by
  refine ext_getD h.1 (by rw [loseL_len]; exact hg.ll) fun i hlt => ?_
  rw [h.2 i hlt, List.take_length]
  split
  · rfl
  · rename_i hn
    rw [loseL_other _ _ _ _ _ _ hn, hi i hlt hn]
theorem take_snoc {L : List Nat} {k : Nat} (h : k < L.length) : L.take (k + 1) = L.take k ++ [L.getD k 0] := by
  rw [List.take_succ_eq_append_getElem h]; simp [h]
theorem not_take {L : List Nat} (h : L.Nodup) {k : Nat} (hk : k < L.length) : L.getD k 0 ∉ L.take k := by
  rw [← List.take_append_drop k L] at h
  have h2 := (List.nodup_append.1 h).2.2
  intro hm
  refine h2 _ hm _ ?_ rfl
  rw [show L.getD k 0 = L[k] by simp [hk], List.drop_eq_getElem_cons hk]
  exact List.mem_cons_self
theorem mid_snoc {D : Dsk} (keep : Nat) {k : Nat} (hk : k < D.ca.length) : loseL keep D.wr (D.ca.take (k + 1)) 0 D.la = if kbit keep k then (loseL keep D.wr (D.ca.take k) 0 D.la).set (D.ca.getD k 0) (D.wr.getD (D.ca.getD k 0) ByteArray.empty) else loseL keep D.wr (D.ca.take k) 0 D.la := by
  rw [take_snoc hk, loseL_snoc, show 0 + (D.ca.take k).length = k by simp; omega]
theorem mid_keep {D : Dsk} {keep k : Nat} {X : List ByteArray} (h : IsMid D keep k X) (hg : D.Good) (hk : k < D.ca.length) (hb : kbit keep k = true) : X.getD (D.ca.getD k 0) ByteArray.empty = D.wr.getD (D.ca.getD k 0) ByteArray.empty ∧ IsMid D keep (k + 1) X := by
  have hlt : D.ca.getD k 0 < 256 := hg.lt _ (mem_getD.2 ⟨k, hk, rfl⟩)
  have hn := not_take hg.nd hk
  have e : X.getD (D.ca.getD k 0) ByteArray.empty = D.wr.getD (D.ca.getD k 0) ByteArray.empty := by rw [h.2 _ hlt, if_neg hn]
  refine ⟨e, h.1, fun i hi => ?_⟩
  rw [mid_snoc keep hk, if_pos hb, take_snoc hk, getD_set (by rw [loseL_len, hg.ll]; exact hlt)]
  by_cases hx : i = D.ca.getD k 0
  · rw [hx, if_pos (by simp), if_pos rfl, e]
  · rw [if_neg hx, h.2 i hi]
    by_cases hm : i ∈ D.ca.take k
    · rw [if_pos hm, if_pos (by simp [hm])]
    · rw [if_neg hm, if_neg (by rw [List.mem_append]; rintro (h | h); exact hm h; simp at h; exact hx (by simpa using h))]
theorem mid_drop {D : Dsk} {keep k : Nat} {X : List ByteArray} (h : IsMid D keep k X) (hg : D.Good) (hk : k < D.ca.length) (hb : kbit keep k = false) : IsMid D keep (k + 1) (X.set (D.ca.getD k 0) ((loseL keep D.wr (D.ca.take k) 0 D.la).getD (D.ca.getD k 0) ByteArray.empty)) := by
  have hlt : D.ca.getD k 0 < 256 := hg.lt _ (mem_getD.2 ⟨k, hk, rfl⟩)
  refine ⟨by rw [List.length_set]; exact h.1, fun i hi => ?_⟩
  rw [mid_snoc keep hk, if_neg (show ¬ kbit keep k = true by rw [hb]; decide), take_snoc hk, getD_set (by rw [h.1]; exact hlt)]
  by_cases hx : i = D.ca.getD k 0
  · rw [hx, if_pos rfl, if_pos (by simp)]
  · rw [if_neg hx, h.2 i hi]
    by_cases hm : i ∈ D.ca.take k
    · rw [if_pos hm, if_pos (by simp [hm])]
    · rw [if_neg hm, if_neg (by rw [List.mem_append]; rintro (h | h); exact hm h; simp at h; exact hx (by simpa using h))]
end Go.Proofs.Ythcefjkpiaecjaa
