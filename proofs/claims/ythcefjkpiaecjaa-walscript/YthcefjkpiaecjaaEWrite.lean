/- The document's disk: Write, Sync. -/
import Derived.Test.YthcefjkpiaecjaaEOps
namespace Go.Proofs.Ythcefjkpiaecjaa
open Go.RowKit
set_option linter.unusedVariables false
set_option maxRecDepth 100000
set_option linter.unusedSimpArgs false

theorem ewrite_out (D : Dsk) (i : Int) (s : ByteArray) (hi : i < 0 ∨ 256 ≤ i) : D.write i s = (D, 40) := by unfold Dsk.write; rw [if_pos hi]
theorem RAt.below {w w' : World} {b : Nat} {D : Dsk} {vw vi vc : Value} {cl fk : Int} {keep : Nat} (h : RAt w b D vw vi vc cl fk keep) (hb : Below w.heap.size w w') : RAt w' b D vw vi vc cl fk keep :=
  ⟨(hb.block b (lt_of_block h.blk)).trans h.blk, ownsRow_below h.was hb, ownsRow_below h.is hb, ownsRow_below h.ca hb, h.ne, h.good, h.cl, h.fk, h.kp⟩
theorem own_grown {w w' : World} {base : Nat} {e : TypeId} {v : Value} {n : Nat} {xs : List Value} {row : Option Nat} (h : w.ownsRow base e 1 v n xs) (hg : w.grownBy w' row) (hne : ∀ g, v.ownBlock = some g → row ≠ some g) : w'.ownsRow base e 1 v n xs := by
  obtain ⟨h1, h2⟩ := h
  refine ⟨h1, ?_⟩
  rcases h2 with h2 | ⟨g, cap, cur, hv, hb, hh, r⟩
  · exact Or.inl h2
  · exact Or.inr ⟨g, cap, cur, hv, hb, (hg.block g (lt_of_block hh) (fun x => hne g (by rw [hv]; rfl) x.symm)).trans hh, r⟩
set_option maxHeartbeats 4000000 in
theorem ewrite_in (w : World) (B b : Nat) (D : Dsk) (vw vi vc : Value) (cl fk : Int) (keep : Nat) (i : Nat) (s : ByteArray) (ho : D.ops < 4611686018427387904) (hB : B ≤ b) (hi : i < 256) (hs : s.size ≤ 256) (h : RAt w b D vw vi vc cl fk keep) (hinv : Inv D) :
    Calls Try.prog 20 #[.pointer (some ⟨b, 0, none⟩), .int .i64 (i : Int), .string s] w fun e w' => e = .returned (.int .i64 (D.write i s).2) ∧ RNext B b vw vi vc (D.write i s).1 w w' := by
  have HE := hid (write_begin D i s hi hs)
  have hs' : ¬ (256 : Int) < (s.size : Int) := by omega
  obtain ⟨i0, hi0, hz0, hz1, hz2⟩ := info_parts Try.info3
  go_enter Try.func20, Try.ntmps20
  go_wp2_with fail
  refine (raw_any w B b D vw vi vc cl fk keep ho hB h hinv).mono ?_
  rintro e w1 ⟨rfl, vc1, cl1, fk1, keep1, h1, hso, k1⟩
  generalize D.begin = DB at *
  obtain ⟨D1, e1⟩ := DB
  simp only at h1 HE ⊢
  have hsz := k1.size
  by_cases he : e1 = 0
  · subst he
    obtain ⟨gi, ci, rfl, hi1, hi2⟩ := own_pos h1.is (by omega)
    obtain ⟨sa, sc, rfl⟩ := own_slice h1.ca
    have Bi : B ≤ gi := Nat.le_trans hB (h1.is.lt gi rfl).1
    have c1 := h1.cell 1 _ rfl
    have st := row_at h1.is i (by rw [h1.good.wl]; exact hi)
    have f1 := h1.is.frozenAt i
    have h2 := h1.set_is i s
    have k2 := k1.set (k := i) (b := gi) (Or.inr (Or.inr (Or.inl rfl))) Bi (.string s)
    generalize D1.wr.getD i ByteArray.empty = old at *
    have hsm := h1.good.small
    have G := hid (h1.good.put i hi s)
    have HSO := hid hso
    have hsz2 : w.heap.size ≤ (w1.setCell ⟨gi, i, none⟩ (.string s)).heap.size := k2.size
    clear hso
    go_wp2
    clear c1 st f1 h1 k1 hsz
    generalize w1.setCell ⟨gi, i, none⟩ (.string s) = w2 at *
    go_loop [8] (fun j => ∃ k : Nat, k ≤ D1.ca.length ∧ j = .int .i64 k ∧ i ∉ D1.ca.take k) (fun j => D1.ca.length - (intOf j).toNat)
    case atStart => exact ⟨0, Nat.zero_le _, rfl, by simp⟩
    case round =>
      obtain ⟨k, hk, rfl, hno⟩ := hrel
      have HNO := hid hno
      clear hno
      have c2 := h2.cell 2 _ rfl
      by_cases hlt : k < D1.ca.length
      · obtain ⟨gc, cc, hsv, hc1, hc2⟩ := own_pos h2.ca (by show 0 < D1.ca.length; omega)
        simp only [Value.slice.injEq] at hsv
        obtain ⟨rfl, _, rfl⟩ := hsv
        have hx := ints_at h2.ca k hlt
        simp only at hx c2
        by_cases hxe : D1.ca.getD k 0 = i
        · have hm : i ∈ D1.ca := mem_getD.2 ⟨k, hlt, hxe⟩
          have hfin : RNext B b vw (.slice (some ⟨gi, 0, none⟩) 256 ci) vc (D1.put i s) w w2 := ⟨_, _, _, _, by
            rw [show (D1.put i s) = { D1 with wr := D1.wr.set i s } by simp [Dsk.put, hm]]
            exact h2, HSO.out, k2⟩
          rw [hxe] at hx
          clear hm hxe
          go_wp2
          go_ret
          rw [HE.out]
          exact ⟨rfl, hfin⟩
        · have hb : ((D1.ca.getD k 0 : Int) == (i : Int)) = false := beq_eq_false_iff_ne.2 (by omega)
          have HN2 := hid (show i ∉ D1.ca.take (k + 1) by
            rw [take_snoc hlt, List.mem_append]
            rintro (h | h)
            · exact HNO.out h
            · simp at h; exact hxe (by simpa using h.symm))
          generalize hq : D1.ca.getD k 0 = x at hx hb
          clear hq hxe
          go_wp2
          go_round
          case rel => exact ⟨k + 1, by omega, by go_num, HN2.out⟩
          case measure => simp [intOf]; omega
      · have hk' : k = D1.ca.length := by omega
        have hn : i ∉ D1.ca := by have := HNO.out; rwa [hk', List.take_length] at this
        have HN := hid hn
        clear hn hk'
        have hbw : b < w2.heap.size := lt_of_block h2.blk
        have r2 := h2.below (w' := w2.alloc (.cells #[.int .i64 (i : Int)] 3)) ((Below.refl _ _).alloc (Nat.le_refl _) _)
        have k3 := k2.alloc (by omega) (.cells #[.int .i64 (i : Int)] 3)
        have o2 := r2.ca
        simp only at c2 o2
        go_wp2_with (at_builtin; refine wpList_append_own_at _ rfl _ _ 50 rfl b 3 i0 (.int .i64 0) 1 8 Try.underlying50 hi0 hz0 hz1 hz2 rfl (by decide) _ _ _ rfl o2 ⟨w2.heap.size, 0, none⟩ 1 1 [.int .i64 (i : Int)] rfl rfl (by intro j u hu; match j, hu with | 0, hu => simp at hu; subst hu; simp [Addr.add]) (by intro u hu; simp at hu; subst hu; rfl) (by unfold maxLen; omega) (by omega) (by simp; omega) ?_)
        intro v' w3 hown3 hgrow hnil hwhere
        rw [show ints D1.ca ++ [.int .i64 (i : Int)] = ints (D1.ca ++ [i]) from (ints_app _ _).symm] at hown3
        have e3 := (hgrow.block b (by simp; omega) (fun e => own_ne o2 r2.blk (by decide) e.symm)).trans r2.blk
        have k4 := k3.grown hgrow (by simp; omega) (fun q hq => Nat.le_trans hB (o2.lt q hq).1) (fun q hq => by
          rcases HSO.out q hq with e | e
          · exact Or.inl (Or.inr (Or.inr (Or.inr e)))
          · exact Or.inr e)
        have ow := own_grown r2.was hgrow (fun g hg => two_rows r2.was o2 (by decide) g hg)
        have oi := own_grown r2.is hgrow (fun g hg => two_rows r2.is o2 (by decide) g hg)
        have hnew : ∀ g, v'.ownBlock = some g → vc.ownBlock = some g ∨ w.heap.size ≤ g := by
          intro g hg
          rcases hwhere with e | e
          · exact HSO.out g (by rw [← e]; exact hg)
          · right; rw [e] at hg; simp at hg; omega
        have hfin : RNext B b vw (.slice (some ⟨gi, 0, none⟩) 256 ci) vc (D1.put i s) w (w3.setCell ⟨b, 2, none⟩ v') := by
          have E : D1.put i s = { D1 with wr := D1.wr.set i s, ca := D1.ca ++ [i] } := by simp [Dsk.put, HN.out]
          have G' := G.out
          rw [E] at G' ⊢
          refine ⟨v', cl1, fk1, keep1, ⟨?_, ownsRow_setCell_other ow (own_ne ow e3 (by decide)) _, ownsRow_setCell_other oi (own_ne oi e3 (by decide)) _, ?_, r2.ne, G', r2.cl, r2.fk, r2.kp⟩, hnew, k4.set (Or.inl rfl) hB _⟩
          · rw [set_at e3]; rfl
          · rw [List.length_append]; exact ownsRow_setCell_other hown3 (own_ne hown3 e3 (by decide)) _
        have c5 : w3.cell? ⟨b, 2, none⟩ = some (.slice sa D1.ca.length sc) := cell_at e3 2 _ rfl
        have f5 := free_at e3
        obtain ⟨va, vcp, rfl⟩ := own_slice hown3
        clear c2 h2 k2 k3 r2 o2 hown3 hgrow hnil hwhere hnew e3 k4 ow oi G HSO
        go_wp2
        go_ret
        rw [HE.out]
        exact ⟨rfl, hfin⟩
  · rw [if_neg he] at HE
    have he' : (e1 == 0) = false := beq_eq_false_iff_ne.2 he
    go_wp2
    go_ret
    rw [HE.out]
    exact ⟨rfl, vc1, cl1, fk1, keep1, h1, hso, k1⟩
theorem ewrite_any (w : World) (B b : Nat) (D : Dsk) (vw vi vc : Value) (cl fk : Int) (keep : Nat) (i : Int) (s : ByteArray) (ho : D.ops < 4611686018427387904) (hB : B ≤ b) (h : RAt w b D vw vi vc cl fk keep) (hinv : Inv D) :
    Calls Try.prog 20 #[.pointer (some ⟨b, 0, none⟩), .int .i64 i, .string s] w fun e w' => e = .returned (.int .i64 (D.write i s).2) ∧ RNext B b vw vi vc (D.write i s).1 w w' := by
  rcases (show i < 0 ∨ (0 ≤ i ∧ 256 ≤ i) ∨ (0 ≤ i ∧ i < 256) by omega) with hi | ⟨hi, hi'⟩ | ⟨hi, hi'⟩
  · rw [ewrite_out D i s (Or.inl hi)]
    go_enter Try.func20, Try.ntmps20
    go_wp2
    go_ret
    exact ⟨rfl, RNext.refl h⟩
  · rw [ewrite_out D i s (Or.inr hi')]
    go_enter Try.func20, Try.ntmps20
    go_wp2
    go_ret
    exact ⟨rfl, RNext.refl h⟩
  · obtain ⟨n, rfl⟩ : ∃ n : Nat, i = n := ⟨i.toNat, by omega⟩
    by_cases hs : 256 < s.size
    · rw [write_big D n s (by omega) hs]
      have hs' : (256 : Int) < (s.size : Int) := by omega
      go_enter Try.func20, Try.ntmps20
      go_wp2
      go_ret
      exact ⟨rfl, RNext.refl h⟩
    · exact ewrite_in w B b D vw vi vc cl fk keep n s ho hB (by omega) (by omega) h hinv
/-- What lasts when k cached sectors were made to. -/
def WasMid (D : Dsk) (k : Nat) (X : List ByteArray) : Prop := X.length = 256 ∧ ∀ i, i < 256 → X.getD i ByteArray.empty = if i ∈ D.ca.take k then D.wr.getD i ByteArray.empty else D.la.getD i ByteArray.empty
theorem wmid_start {D : Dsk} (h : D.Good) : WasMid D 0 D.la := ⟨h.ll, fun i hi => by simp⟩
theorem wmid_step {D : Dsk} {k : Nat} {X : List ByteArray} (h : WasMid D k X) (hg : D.Good) (hk : k < D.ca.length) : WasMid D (k + 1) (X.set (D.ca.getD k 0) (D.wr.getD (D.ca.getD k 0) ByteArray.empty)) := by
  have hlt : D.ca.getD k 0 < 256 := hg.lt _ (mem_getD.2 ⟨k, hk, rfl⟩)
  refine ⟨by rw [List.length_set]; exact h.1, fun i hi => ?_⟩
  rw [take_snoc hk, getD_set (by rw [h.1]; exact hlt)]
  by_cases hx : i = D.ca.getD k 0
  · rw [hx, if_pos rfl, if_pos (by simp)]
  · rw [if_neg hx, h.2 i hi]
    by_cases hm : i ∈ D.ca.take k
    · rw [if_pos hm, if_pos (by simp [hm])]
    · rw [if_neg hm, if_neg (by rw [List.mem_append]; rintro (h | h); exact hm h; simp at h; exact hx (by simpa using h))]
theorem wmid_end {D : Dsk} {X : List ByteArray} (h : WasMid D D.ca.length X) (hi : Inv D) (hg : D.Good) : X = D.wr := by
  refine ext_getD h.1 hg.wl fun i hlt => ?_
  rw [h.2 i hlt, List.take_length]
  split
  · rfl
  · rename_i hn
    rw [hi i hlt hn]
set_option maxHeartbeats 4000000 in
theorem esync_any (w : World) (B b : Nat) (D : Dsk) (vw vi vc : Value) (cl fk : Int) (keep : Nat) (ho : D.ops < 4611686018427387904) (hB : B ≤ b) (h : RAt w b D vw vi vc cl fk keep) (hinv : Inv D) :
    Calls Try.prog 66 #[.pointer (some ⟨b, 0, none⟩)] w fun e w' => e = .returned (.int .i64 D.sync.2) ∧ RNext B b vw vi vc D.sync.1 w w' := by
  have HE := hid (show D.sync = if D.begin.2 = 0 then (D.begin.1.synced, 0) else D.begin from rfl)
  have HI := hid hinv.begin
  go_enter Try.func66, Try.ntmps66
  go_wp2_with fail
  refine (raw_any w B b D vw vi vc cl fk keep ho hB h hinv).mono ?_
  rintro e w1 ⟨rfl, vc1, cl1, fk1, keep1, h1, hso, k1⟩
  generalize D.begin = DB at *
  obtain ⟨D1, e1⟩ := DB
  simp only at h1 HE HI ⊢
  by_cases he : e1 = 0
  · subst he
    obtain ⟨gw, cw, rfl, hw1, hw2⟩ := own_pos h1.was (by omega)
    obtain ⟨gi, ci, rfl, hi1, hi2⟩ := own_pos h1.is (by omega)
    have Bw : B ≤ gw := Nat.le_trans hB (h1.was.lt gw rfl).1
    obtain ⟨sa, sc, rfl⟩ := own_slice h1.ca
    have hsm := h1.good.small
    have hG := h1.good
    have HSO := hid hso
    clear hso h
    go_wp2
    go_loopw [4] (fun i W => ∃ (k : Nat) (X : List ByteArray), k ≤ D1.ca.length ∧ i = .int .i64 k ∧ WasMid D1 k X ∧ RAt W b { D1 with la := X } (.slice (some ⟨gw, 0, none⟩) 256 cw) (.slice (some ⟨gi, 0, none⟩) 256 ci) (.slice sa D1.ca.length sc) cl1 fk1 keep1 ∧ Kf (Sr b (.slice (some ⟨gw, 0, none⟩) 256 cw) (.slice (some ⟨gi, 0, none⟩) 256 ci) vc) B w W) (fun i _ => D1.ca.length - (intOf i).toNat)
    case atStart => exact ⟨0, D1.la, Nat.zero_le _, rfl, wmid_start hG, h1, k1⟩
    case round =>
      obtain ⟨k, X, hkl, rfl, hmid, hd1, kp⟩ := hrel
      clear h1 k1
      have c2 := hd1.cell 2 _ rfl
      have HM := hid hmid
      clear hmid
      by_cases hlt : k < D1.ca.length
      · obtain ⟨gc, cc, hsv, hc1, hc2⟩ := own_pos hd1.ca (by show 0 < D1.ca.length; omega)
        simp only [Value.slice.injEq] at hsv
        obtain ⟨rfl, _, rfl⟩ := hsv
        have hx := ints_at hd1.ca k hlt
        simp only at hx
        have hmem : D1.ca.getD k 0 < 256 := hd1.good.lt _ (mem_getD.2 ⟨k, hlt, rfl⟩)
        have c0 := hd1.cell 0 _ rfl
        have c1 := hd1.cell 1 _ rfl
        have hwl := hd1.good.wl
        have hll := hd1.good.ll
        simp only at hwl hll
        have s1 := row_at hd1.is (D1.ca.getD k 0) (by simp only; omega)
        have s0 := row_at hd1.was (D1.ca.getD k 0) (by simp only; omega)
        simp only at s0 s1
        have f0 := hd1.was.frozenAt (D1.ca.getD k 0)
        have HN := hid (wmid_step HM.out hG hlt)
        have hd2 := (hd1.set_was (D1.ca.getD k 0) (D1.wr.getD (D1.ca.getD k 0) ByteArray.empty)).drew
        have kp2 := (kp.set (k := D1.ca.getD k 0) (b := gw) (Or.inr (Or.inl rfl)) Bw (.string (D1.wr.getD (D1.ca.getD k 0) ByteArray.empty))).drew
        clear HM
        generalize D1.ca.getD k 0 = x at *
        generalize D1.wr.getD x ByteArray.empty = p1 at *
        generalize X.getD x ByteArray.empty = p0 at *
        go_wp2
        go_region
        generalize (wr.setCell ⟨gw, x, none⟩ (.string p1)).drew = wq at *
        clear hd1 kp c0 c1 c2 s0 s1 f0 hx
        go_wp2
        go_roundw
        case rel => exact ⟨k + 1, X.set x p1, by omega, by go_num, HN.out, hd2, kp2⟩
        case measure => simp [intOf]; omega
      · have hk' : k = D1.ca.length := by omega
        subst hk'
        have hX := wmid_end HM.out HI.out hG
        subst hX
        have fr := hd1.free
        have hfin : RNext B b (.slice (some ⟨gw, 0, none⟩) 256 cw) (.slice (some ⟨gi, 0, none⟩) 256 ci) vc D1.synced w (wr.setCell ⟨b, 2, none⟩ (.slice none 0 0)) :=
          ⟨.slice none 0 0, cl1, fk1, keep1, ⟨set_at hd1.blk, ownsRow_setCell_other hd1.was (own_ne hd1.was hd1.blk (by decide)) _, ownsRow_setCell_other hd1.is (own_ne hd1.is hd1.blk (by decide)) _, World.ownsRow_nil _ _ _ _, hd1.ne, hG.synced, hd1.cl, hd1.fk, hd1.kp⟩, fun g hg => by simp [Value.ownBlock] at hg, kp.set (Or.inl rfl) hB _⟩
        go_wp2
        go_ret
        rw [HE.out]
        exact ⟨rfl, hfin⟩
  · rw [if_neg he] at HE
    have he' : (e1 == 0) = false := beq_eq_false_iff_ne.2 he
    go_wp2
    go_ret
    rw [HE.out]
    exact ⟨rfl, vc1, cl1, fk1, keep1, h1, hso, k1⟩
end Go.Proofs.Ythcefjkpiaecjaa
