/- market: the document's Build. -/
import Derived.Test.YtlkcfgjhgmpbcaaK15E
namespace Go.Proofs.Ytlkcfgjhgmpbcaa
open Go.RowKit
set_option linter.unusedVariables false
set_option maxRecDepth 100000
set_option linter.unusedSimpArgs false

set_option maxHeartbeats 25600000 in
theorem rbuild_any (w : World) (Hs lo hi H : Int) (la : Option Addr) (lc : Nat) (L : List Ln) (hL : Lns w (.slice la L.length lc) L) (sa : Option Addr) (sc : Nat) (S : List Sp) (hs : Sps w (.slice sa S.length sc) S) (na : Option Addr) (nc : Nat) (net : List Int) (hn : Ints w (.slice na net.length nc) net) (ok : gok ⟨(net.length : Int), Hs, lo, hi, L⟩ = true) (hS : S.length ≤ 64) (hR : Rgt S net) :
    Calls Try.prog 7 #[.agg #[.int .i64 (net.length : Int), .int .i64 Hs, .slice la L.length lc, .int .i64 lo, .int .i64 hi], .slice sa S.length sc, .int .i64 H, .slice na net.length nc] w fun e w' => ∃ rv ev bv cv, e = .returned (.agg #[rv, ev, bv, cv]) ∧ IsPrb w' rv ev bv cv (bldP (vrs (net.length : Int) H S L) net) ∧ Below w.heap.size w w' := by
  obtain ⟨g1, g2, g3, g4, g5⟩ := gok_iff.1 ok
  simp only at g1 g4 g5
  have HN := hid hn
  have HL := hid hL
  have HS0 := hid hs
  have HRN := hid hR
  have HG5 := hid g5
  have HZN : Hid (net.length ≤ 3) := hid (by omega)
  obtain ⟨na', nc', ne, nl, nm⟩ := hn.slice
  simp only [Value.slice.injEq] at ne
  obtain ⟨rfl, -, rfl⟩ := ne
  unfold maxLen at nm
  have b1 := ibel w (Obj.cells #[.int .i64 (net.length : Int), .int .i64 Hs, .slice la L.length lc, .int .i64 lo, .int .i64 hi] 24)
  have x1 := inew w (Obj.cells #[.int .i64 (net.length : Int), .int .i64 Hs, .slice la L.length lc, .int .i64 lo, .int .i64 hi] 24)
  have b2 := ibel (w.alloc (Obj.cells #[.int .i64 (net.length : Int), .int .i64 Hs, .slice la L.length lc, .int .i64 lo, .int .i64 hi] 24)) (Obj.cells #[.slice none 0 0, .slice none 0 0, .slice none 0 0, .slice none 0 0] 34)
  have x2 := inew (w.alloc (Obj.cells #[.int .i64 (net.length : Int), .int .i64 Hs, .slice la L.length lc, .int .i64 lo, .int .i64 hi] 24)) (Obj.cells #[.slice none 0 0, .slice none 0 0, .slice none 0 0, .slice none 0 0] 34)
  have x1' := (b2.block _ (lt_of_block x1)).trans x1
  have B2 := chain2 b1 b2
  have z0 := ibx x1' 0 (.int .i64 (net.length : Int)) rfl
  have z1 := ibx x1' 1 (.int .i64 Hs) rfl
  have z2 := ibx x1' 2 (.slice la L.length lc) rfl
  have z3 := ibx x1' 3 (.int .i64 lo) rfl
  have z4 := ibx x1' 4 (.int .i64 hi) rfl
  have HOF := hid (of_any ((w.alloc (Obj.cells #[.int .i64 (net.length : Int), .int .i64 Hs, .slice la L.length lc, .int .i64 lo, .int .i64 hi] 24)).alloc (Obj.cells #[.slice none 0 0, .slice none 0 0, .slice none 0 0, .slice none 0 0] 34)) (net.length : Int) Hs lo hi H la lc L sa sc S (HS0.out.below B2) hS)
  have HX1 := hid x1'
  have HB2 := hid B2
  have HX2 := hid x2
  simp only [World.size_alloc] at HX2
  clear hL hs hn ok g1 g3 g5 hR b1 x1 b2 x2 x1' B2
  go_enter Try.func7, Try.ntmps7
  go_wp2_with fail
  generalize (w.alloc (Obj.cells #[.int .i64 (net.length : Int), .int .i64 Hs, .slice la L.length lc, .int .i64 lo, .int .i64 hi] 24)).alloc (Obj.cells #[.slice none 0 0, .slice none 0 0, .slice none 0 0, .slice none 0 0] 34) = W2 at *
  refine HOF.out.mono ?_
  rintro e W3 ⟨mv, rfl, hM, b3⟩
  obtain ⟨ma, mc, rfl, ml, mm⟩ := hM.slice
  unfold maxLen at mm
  have z0 := ikc b3 z0
  have z1 := ikc b3 z1
  have z2 := ikc b3 z2
  have z3 := ikc b3 z3
  have z4 := ikc b3 z4
  have HB3 := hid (chain2 HB2.out b3)
  have HX13 := hid ((b3.block _ (lt_of_block HX1.out)).trans HX1.out)
  have HX23 := hid ((b3.block _ (lt_of_block HX2.out)).trans HX2.out)
  have HM := hid hM
  have HVS := hid (vrs_step (net.length : Int) H S L)
  have HVL := hid (vrs_line (net.length : Int) H S L)
  have hlen := vrs_len (net.length : Int) H S L
  have HMM := hid (fun (s : Sp) (h : s ∈ ofH (net.length : Int) H S) => show s ∈ S from (List.mem_filter.1 h).1)
  have hm64 : (ofH (net.length : Int) H S).length ≤ 64 := Nat.le_trans (List.length_filter_le _ _) hS
  have bA := ibel W3 (Obj.cells #[.slice none 0 0, .slice none 0 0, .slice none 0 0, .slice none 0 0] 34)
  have x5 := inew W3 (Obj.cells #[.slice none 0 0, .slice none 0 0, .slice none 0 0, .slice none 0 0] 34)
  generalize hMe : ofH (net.length : Int) H S = M at *
  generalize hVe : vrs (net.length : Int) H S L = V at *
  have HVE := hid hVe
  have HME := hid hMe
  have HLN : Hid (V.length = M.length + L.length) := hid hlen
  have hV67 : V.length ≤ 67 := by omega
  clear hM b3 HOF HX1 HX2 hVe hMe hlen
  go_wp2_with fail
  rw [show (M.length : Int) + (L.length : Int) = (V.length : Int) by have := HLN.out; omega]
  generalize W3.alloc (Obj.cells #[.slice none 0 0, .slice none 0 0, .slice none 0 0, .slice none 0 0] 34) = W5 at *
  have HVW := hid (fun (Y : World) (b : Below W3.heap.size W5 Y) => HM.out.below (bA.trans b))
  have HWW := hid (fun (Y : World) (b : Below W3.heap.size W5 Y) => show Below w.heap.size w Y from HB3.out.trans ((bA.trans b).mono HB3.out.size))
  have HX4P : Hid (w.heap.size + 1 < W3.heap.size) := hid (lt_of_block HX23.out)
  have HXR := hid (fun (Y : World) (b : Below W3.heap.size W5 Y) => show Y.heap[w.heap.size + 1]? = some (.cells #[.slice none 0 0, .slice none 0 0, .slice none 0 0, .slice none 0 0] 34 (0, 0)) from ((bA.trans b).block _ HX4P.out).trans HX23.out)
  have HNE : Hid (w.heap.size ≠ W3.heap.size) := hid (by have := HX4P.out; omega)
  have HBX0 : Hid (Bx3 34 24 W5 W5 W3.heap.size w.heap.size #[.int .i64 (net.length : Int), .int .i64 Hs, .slice la L.length lc, .int .i64 lo, .int .i64 hi] (P1 V 0)) := hid ⟨[], _, _, _, _, by simpa [P1] using PV.none W5 W3.heap.size, x5, (bA.block _ (lt_of_block HX13.out)).trans HX13.out, Below.refl _ _, bA.size⟩
  obtain ⟨j0, hj0, jz0, jz1, jz2⟩ := kparts kinfo_ints
  obtain ⟨i0, hi0, iz0, iz1, iz2⟩ := kparts kinfo_int
  clear HB3 HX13 HX23 HM bA x5 z0 z1 z2 z3 z4
  generalize hpbE : W3.heap.size = pb at *
  clear hpbE
  go_loopw [12] (fun iv wr => ∃ k : Nat, k ≤ V.length ∧ iv = .int .i64 (k : Int) ∧ Hid (Bx3 34 24 wr W5 pb w.heap.size #[.int .i64 (net.length : Int), .int .i64 Hs, .slice la L.length lc, .int .i64 lo, .int .i64 hi] (P1 V k))) (fun iv _ => V.length - (intOf iv).toNat)
  case atStart => exact ⟨0, Nat.zero_le _, rfl, HBX0⟩
  case round =>
    clear HBX0
    obtain ⟨k, hk, rfl, HBX⟩ := hrel
    by_cases hlt : k < V.length
    · obtain ⟨vs, rv, ev, bv, cv, hp3⟩ := HBX.out
      have HPS := hid (P1_succ V k hlt)
      obtain ⟨l1, l2, l3, l4⟩ := P1_len V k (by omega)
      have m1 : (P1 V k).rows.length ≤ 67 := by omega
      have m2 : (P1 V k).rel.length ≤ 67 := by omega
      have m3 : (P1 V k).b.length ≤ 67 := by omega
      have m4 : (P1 V k).c.length ≤ 67 := by omega
      clear l1 l2 l3 l4
      generalize P1 V k = P at *
      have HMK := kmake V.length (by omega)
      have io7 := kmade_io wr pb V.length hp3.sz (by omega)
      obtain ⟨⟨u0, hu0⟩, hu1, -⟩ := io7.put (by simp) k hlt 1
      have hio8 := kset_io wr pb V.length hp3.sz (by omega) k 1
      have HIO0 := hid (show IO (wr.alloc (Obj.cells ((intV (List.replicate V.length 0)).set k (.int .i64 1)).toArray 3)) pb (Value.slice (some ⟨wr.heap.size, 0, none⟩) V.length V.length) (unitR V.length k) from hio8)
      have HP0 := hid (hp3.alloc (Obj.cells ((intV (List.replicate V.length 0)).set k (.int .i64 1)).toArray 3))
      have HD : Hid (DB (Value.slice (some ⟨wr.heap.size, 0, none⟩) V.length V.length) ev ∧ DB (Value.slice (some ⟨wr.heap.size, 0, none⟩) V.length V.length) bv ∧ DB (Value.slice (some ⟨wr.heap.size, 0, none⟩) V.length V.length) cv) :=
        hid ⟨(DB.new (v := (Value.slice (some ⟨wr.heap.size, 0, none⟩) V.length V.length)) rfl (fun x hx => (World.ownsRow.lt hp3.pv.rel x hx).2)).symm, (DB.new (v := (Value.slice (some ⟨wr.heap.size, 0, none⟩) V.length V.length)) rfl (fun x hx => (World.ownsRow.lt hp3.pv.b x hx).2)).symm, (DB.new (v := (Value.slice (some ⟨wr.heap.size, 0, none⟩) V.length V.length)) rfl (fun x hx => (World.ownsRow.lt hp3.pv.c x hx).2)).symm⟩
      clear io7 hio8 HBX hp3
      have HA0 := hid (HP0.out.alloc (Obj.cells #[(Value.slice (some ⟨wr.heap.size, 0, none⟩) V.length V.length)] 26))
      have HQ0 := hid (Pd.new HP0.out 26 ((Value.slice (some ⟨wr.heap.size, 0, none⟩) V.length V.length)))
      (try simp only [World.size_alloc, set_size] at HQ0)
      have hown0 : ((wr.alloc (Obj.cells ((intV (List.replicate V.length 0)).set k (.int .i64 1)).toArray 3)).alloc (Obj.cells #[(Value.slice (some ⟨wr.heap.size, 0, none⟩) V.length V.length)] 26)).ownsRow pb 26 1 rv P.rows.length vs := HA0.out.pv.rows
      have y0 := ibx HP0.out.box 0 rv rfl
      go_wp2_with (first | (at_builtin; refine wpList_append_own_at _ rfl _ _ 30 rfl pb 26 j0 (.slice none 0 0) 1 24 Try.underlying30 hj0 jz0 jz1 jz2 rfl (by decide) rv P.rows.length vs rfl hown0 ⟨_, 0, none⟩ 1 1 [(Value.slice (some ⟨wr.heap.size, 0, none⟩) V.length V.length)] rfl rfl HQ0.out.news (by intro u hu; simp at hu; subst hu; rfl) (by unfold maxLen; omega) (by omega) HA0.out.sz ?_) | fail)
      intro v0 R0 o0 hg0 _ hat0
      obtain ⟨qa0, qc0, rfl⟩ := kown_form o0
      have HIOA := hid (World.ownsRow.alloc HIO0.out (Obj.cells #[(Value.slice (some ⟨wr.heap.size, 0, none⟩) V.length V.length)] 26))
      have HPa := hid (HA0.out.pr (by decide) (by decide) (L := unitR V.length k) HIOA.out HD.out.1 HD.out.2.1 HD.out.2.2 o0 hg0)
      have HP1 := hid (P3.st (L := [rv, ev, bv, cv]) HPa.out (by decide) (by decide) HNE.out 0 (.slice qa0 (P.rows.length + 1) qc0))
      have s0 := ibx HPa.out.box 0 rv rfl
      have f0 := free_at (L := [rv, ev, bv, cv]) HPa.out.box 0
      have y1p := ibx HPa.out.box 1 ev rfl
      clear o0 hg0 hat0 hown0 y0 HA0 HQ0 HIO0 HIOA HD HPa HP0 hu0 hu1
      have HA1 := hid (HP1.out.alloc (Obj.cells #[.int .i64 (-1)] 3))
      have HQ1 := hid (Pd.new HP1.out 3 (.int .i64 (-1)))
      (try simp only [World.size_alloc, set_size] at HQ1)
      have hown1 : ((R0.setCell ⟨pb, 0, none⟩ (.slice qa0 (P.rows.length + 1) qc0)).alloc (Obj.cells #[.int .i64 (-1)] 3)).ownsRow pb 3 1 ev P.rel.length (intV P.rel) := HA1.out.pv.rel
      have y1 := ibx HP1.out.box 1 ev rfl
      go_wp2_with (first | (at_builtin; refine wpList_append_own_at _ rfl _ _ 26 rfl pb 3 i0 (.int .i64 0) 1 8 Try.underlying26 hi0 iz0 iz1 iz2 rfl (by decide) ev P.rel.length (intV P.rel) rfl hown1 ⟨_, 0, none⟩ 1 1 [.int .i64 (-1)] rfl rfl HQ1.out.news (by intro u hu; simp at hu; subst hu; rfl) (by unfold maxLen; omega) (by omega) HA1.out.sz ?_) | fail)
      intro v1 R1 o1 hg1 _ hat1
      obtain ⟨qa1, qc1, rfl⟩ := kown_form o1
      have HPb := hid (HA1.out.pe (by decide) (by decide) o1 hg1 (by rw [World.size_alloc, set_size]; exact hat1))
      have HP2 := hid (P3.st (L := [.slice qa0 (P.rows.length + 1) qc0, ev, bv, cv]) HPb.out (by decide) (by decide) HNE.out 1 (.slice qa1 (P.rel.length + 1) qc1))
      have s1 := ibx HPb.out.box 1 ev rfl
      have f1 := free_at (L := [.slice qa0 (P.rows.length + 1) qc0, ev, bv, cv]) HPb.out.box 1
      clear s0 f0 y1p o1 hg1 hat1 hown1 y1 HA1 HQ1 HPb HP1
      by_cases hkm : k < M.length
      · have HSV := hid (HVS.out k hkm hlt)
        obtain ⟨sb, so, sc', e, -⟩ := (HVW.out _ HP2.out.bel).at k hkm
        simp only [Value.slice.injEq] at e
        obtain ⟨rfl, -, rfl⟩ := e
        have HMC := hid (fun (Y : World) (b : Below pb W5 Y) => show SpAt Y sb (so + k * 7) M[k] from by
          obtain ⟨sb', so', sc', e, h⟩ := (HVW.out Y b).at k hkm
          simp only [Value.slice.injEq, Option.some.injEq, Addr.mk.injEq, and_true] at e
          obtain ⟨⟨rfl, rfl⟩, -, -⟩ := e
          exact h)
        have HRS := hid (rgS_iff.1 (HRN.out.1 M[k] (HMM.out _ (List.getElem_mem hkm))))
        generalize M[k] = s at *
        rw [HSV.out] at HPS
        go_wp2_with fail
        generalize R1.setCell ⟨pb, 1, none⟩ (.slice qa1 (P.rel.length + 1) qc1) = Wz at *
        clear s1 f1
        have HS := hid (fun (Y : World) (b1 : Y.heap[pb]? = some (.cells #[.slice qa0 (P.rows.length + 1) qc0, .slice qa1 (P.rel.length + 1) qc1, bv, cv] 34 (0, 0))) (b2 : Below pb W5 Y) (_ : Y.heap[w.heap.size]? = some (.cells #[.int .i64 (net.length : Int), .int .i64 Hs, .slice la L.length lc, .int .i64 lo, .int .i64 hi] 24 (0, 0))) => show (Y.cell? ⟨pb, 2, none⟩ = some bv ∧ Y.cell? ⟨sb, so + k * 7 + 5, none⟩ = some (.int .i64 s.qty)) from ⟨ibx b1 2 _ rfl, (HMC.out Y b2).2.2.2.2.2.1⟩)
        have hP := HP2.out.drew
        clear HP2
        refine wp_region_noPanic ?_
        refine region_split (S := fun Y => Y.cell? ⟨pb, 2, none⟩ = some bv ∧ Y.cell? ⟨sb, so + k * 7 + 5, none⟩ = some (.int .i64 s.qty)) (late := fun j => Nat.ble 10 j) (k := 4) (m := 1) (last := #[true, true, true, true, true, true, true, true, true, true, false]) (mask := #[false, false, false, false, false, false, false, false, false, false, true]) (by kernel_rfl) (by kernel_rfl) (by kernel_rfl) (by kernel_rfl) 10 (by kernel_rfl) (HS.out _ hP.box hP.bel hP.vbx) (fun hHeld => ?_)
        generalize Wz.drew = Y0 at *
        refine wpAnyH_take (i := 0) (v := ?_) rfl (by kernel_rfl) (by kernel_rfl) (by kernel_rfl) (fun _ _ _ h => h) (Or.inl ⟨by rfl, ?_⟩) (by assumption) ?_
        rotate_left
        · intro w hSw
          (try dsimp only at hSw)
          go_simp
          (try with_reducible rfl)
        (try simp only [List.getElem_toArray, List.getElem_cons_zero, List.getElem_cons_succ, Act.put, List.setIfInBounds_toArray, List.set_cons_zero, List.set_cons_succ])
        refine wpAnyH_take (i := 1) (v := ?_) rfl (by kernel_rfl) (by kernel_rfl) (by kernel_rfl) (fun _ _ _ h => h) (Or.inl ⟨by rfl, ?_⟩) (by assumption) ?_
        rotate_left
        · intro w hSw
          (try dsimp only at hSw)
          go_simp
          (try with_reducible rfl)
        (try simp only [List.getElem_toArray, List.getElem_cons_zero, List.getElem_cons_succ, Act.put, List.setIfInBounds_toArray, List.set_cons_zero, List.set_cons_succ])
        refine wpAnyH_take (i := 2) (v := ?_) rfl (by kernel_rfl) (by kernel_rfl) (by kernel_rfl) (fun _ _ _ h => h) (Or.inl ⟨by rfl, ?_⟩) (by assumption) ?_
        rotate_left
        · intro w hSw
          (try dsimp only at hSw)
          go_simp
          (try with_reducible rfl)
        (try simp only [List.getElem_toArray, List.getElem_cons_zero, List.getElem_cons_succ, Act.put, List.setIfInBounds_toArray, List.set_cons_zero, List.set_cons_succ])
        refine wpAnyH_take (i := 3) (v := ?_) rfl (by kernel_rfl) (by kernel_rfl) (by kernel_rfl) (fun _ _ _ h => h) (Or.inl ⟨by rfl, ?_⟩) (by assumption) ?_
        rotate_left
        · intro w hSw
          (try dsimp only at hSw)
          go_simp
          (try with_reducible rfl)
        (try simp only [List.getElem_toArray, List.getElem_cons_zero, List.getElem_cons_succ, Act.put, List.setIfInBounds_toArray, List.set_cons_zero, List.set_cons_succ])
        refine wpAnyH_take (i := 4) (v := ?_) rfl (by kernel_rfl) (by kernel_rfl) (by kernel_rfl) (fun _ _ _ h => h) (Or.inl ⟨by rfl, ?_⟩) (by assumption) ?_
        rotate_left
        · intro w hSw
          (try dsimp only at hSw)
          go_simp
          (try with_reducible rfl)
        (try simp only [List.getElem_toArray, List.getElem_cons_zero, List.getElem_cons_succ, Act.put, List.setIfInBounds_toArray, List.set_cons_zero, List.set_cons_succ])
        refine wpAnyH_take (i := 5) (v := ?_) rfl (by kernel_rfl) (by kernel_rfl) (by kernel_rfl) (fun _ _ _ h => h) (Or.inl ⟨by rfl, ?_⟩) (by assumption) ?_
        rotate_left
        · intro w hSw
          (try dsimp only at hSw)
          go_simp
          (try with_reducible rfl)
        (try simp only [List.getElem_toArray, List.getElem_cons_zero, List.getElem_cons_succ, Act.put, List.setIfInBounds_toArray, List.set_cons_zero, List.set_cons_succ])
        refine wpAnyH_take (i := 6) (v := ?_) rfl (by kernel_rfl) (by kernel_rfl) (by kernel_rfl) (fun _ _ _ h => h) (Or.inl ⟨by rfl, ?_⟩) (by assumption) ?_
        rotate_left
        · intro w hSw
          (try dsimp only at hSw)
          go_simp
          (try with_reducible rfl)
        (try simp only [List.getElem_toArray, List.getElem_cons_zero, List.getElem_cons_succ, Act.put, List.setIfInBounds_toArray, List.set_cons_zero, List.set_cons_succ])
        refine wpAnyH_ready (rs := [7]) (by kernel_rfl) (by simp) ?_
        refine AllReadyH.cons (o := _) rfl (fun Kc hKc => ?_) AllReadyH.nil
        go_simp
        refine hKc.out _ _ (HS.out _ (hP.alloc _).box (hP.alloc _).bel (hP.alloc _).vbx) (fun hHeld => ?_)
        clear hKc Kc
        (try simp only [List.getElem_toArray, List.getElem_cons_zero, List.getElem_cons_succ, Act.put, List.setIfInBounds_toArray, List.set_cons_zero, List.set_cons_succ])
        have hP1 := hP.alloc (Obj.cells #[.int .i64 s.qty] 3)
        have p1 := Pd.new hP 3 (.int .i64 s.qty)
        clear hP
        generalize Y0.alloc (Obj.cells #[.int .i64 s.qty] 3) = Y1 at *
        generalize Y0.heap.size = g at *
        refine wpAnyH_ready (rs := [8]) (by kernel_rfl) (by simp) ?_
        refine AllReadyH.cons (o := _) rfl (fun Kc hKc => ?_) AllReadyH.nil
        refine step_append_at rfl _ _ 26 rfl pb 3 i0 (.int .i64 0) 1 8 Try.underlying26 hi0 iz0 iz1 iz2 rfl (by decide) bv P.b.length (intV P.b) rfl hP1.pv.b ⟨g, 0, none⟩ 1 1 [.int .i64 s.qty] rfl rfl p1.news (by intro u hu; simp at hu; subst hu; rfl) (by unfold maxLen; omega) (by omega) hP1.sz ?_
        intro v2 Y2 o2 hg2 hat2
        obtain ⟨qa2, qc2, rfl⟩ := kown_form o2
        have hP2 := hP1.pb_ (by decide) (by decide) o2 hg2 hat2
        clear p1 o2 hg2 hat2 hP1
        refine hKc.out _ _ (HS.out _ hP2.box hP2.bel hP2.vbx) (fun hHeld => ?_)
        clear hKc Kc
        (try simp only [List.getElem_toArray, List.getElem_cons_zero, List.getElem_cons_succ, Act.put, List.setIfInBounds_toArray, List.set_cons_zero, List.set_cons_succ])
        refine wpAnyH_take (i := 9) (v := ?_) rfl (by kernel_rfl) (by kernel_rfl) (by kernel_rfl) (fun _ _ _ h => h) (Or.inl ⟨by rfl, ?_⟩) (by assumption) ?_
        rotate_left
        · intro w hSw
          (try dsimp only at hSw)
          go_simp
          (try with_reducible rfl)
        (try simp only [List.getElem_toArray, List.getElem_cons_zero, List.getElem_cons_succ, Act.put, List.setIfInBounds_toArray, List.set_cons_zero, List.set_cons_succ])
        refine wpAnyH_done (by kernel_rfl) ?_ _
        intro r
        have c6 := ibx hP2.box 2 bv rfl
        have f6 := free_at (L := [.slice qa0 (P.rows.length + 1) qc0, .slice qa1 (P.rel.length + 1) qc1, bv, cv]) hP2.box 2
        have hP9 := P3.st (L := [.slice qa0 (P.rows.length + 1) qc0, .slice qa1 (P.rel.length + 1) qc1, bv, cv]) hP2 (by decide) (by decide) HNE.out 2 (.slice qa2 (P.b.length + 1) qc2)
        clear hP2 hHeld HS
        refine wpAny_ready (rs := [10]) (by kernel_rfl) (by simp) ?_
        refine AllReady.cons (o := _) rfl (fun Kc hKc => ?_) AllReady.nil
        go_simp
        refine hKc _ _ ?_
        clear hKc Kc
        (try simp only [List.getElem_toArray, List.getElem_cons_zero, List.getElem_cons_succ, Act.put, List.setIfInBounds_toArray, List.set_cons_zero, List.set_cons_succ])
        refine wpAny_done (by kernel_rfl) ?_ _
        refine NoPanic.normal ?_
        clear c6 f6
        have HP3 := hid hP9
        clear hP9
        generalize Y2.setCell ⟨pb, 2, none⟩ (.slice qa2 (P.b.length + 1) qc2) = Z2 at *
        obtain ⟨-, -, -, -, gb, -⟩ := HMC.out _ HP3.out.bel
        cases hb : s.buy with
        | true =>
          have HPT : Hid (P1 V (k + 1) = ⟨P.rows ++ [unitR V.length k], P.rel ++ [-1], P.b ++ [s.qty], P.c ++ [s.price]⟩) := hid (by rw [HPS.out]; simp [sVr, hb])
          rw [hb] at gb
          clear hb HPS HSV
          go_wp2_with fail
          have HS := hid (fun (Y : World) (b1 : Y.heap[pb]? = some (.cells #[.slice qa0 (P.rows.length + 1) qc0, .slice qa1 (P.rel.length + 1) qc1, .slice qa2 (P.b.length + 1) qc2, cv] 34 (0, 0))) (b2 : Below pb W5 Y) (_ : Y.heap[w.heap.size]? = some (.cells #[.int .i64 (net.length : Int), .int .i64 Hs, .slice la L.length lc, .int .i64 lo, .int .i64 hi] 24 (0, 0))) => show (Y.cell? ⟨pb, 3, none⟩ = some cv ∧ Y.cell? ⟨sb, so + k * 7 + 6, none⟩ = some (.int .i64 s.price)) from ⟨ibx b1 3 _ rfl, (HMC.out Y b2).2.2.2.2.2.2⟩)
          have hP := HP3.out.drew
          clear HP3 gb
          refine wp_region_noPanic ?_
          refine region_split (S := fun Y => Y.cell? ⟨pb, 3, none⟩ = some cv ∧ Y.cell? ⟨sb, so + k * 7 + 6, none⟩ = some (.int .i64 s.price)) (late := fun j => Nat.ble 10 j) (k := 4) (m := 1) (last := #[true, true, true, true, true, true, true, true, true, true, false]) (mask := #[false, false, false, false, false, false, false, false, false, false, true]) (by kernel_rfl) (by kernel_rfl) (by kernel_rfl) (by kernel_rfl) 10 (by kernel_rfl) (HS.out _ hP.box hP.bel hP.vbx) (fun hHeld => ?_)
          generalize Z2.drew = Y0 at *
          refine wpAnyH_take (i := 0) (v := ?_) rfl (by kernel_rfl) (by kernel_rfl) (by kernel_rfl) (fun _ _ _ h => h) (Or.inl ⟨by rfl, ?_⟩) (by assumption) ?_
          rotate_left
          · intro w hSw
            (try dsimp only at hSw)
            go_simp
            (try with_reducible rfl)
          (try simp only [List.getElem_toArray, List.getElem_cons_zero, List.getElem_cons_succ, Act.put, List.setIfInBounds_toArray, List.set_cons_zero, List.set_cons_succ])
          refine wpAnyH_take (i := 1) (v := ?_) rfl (by kernel_rfl) (by kernel_rfl) (by kernel_rfl) (fun _ _ _ h => h) (Or.inl ⟨by rfl, ?_⟩) (by assumption) ?_
          rotate_left
          · intro w hSw
            (try dsimp only at hSw)
            go_simp
            (try with_reducible rfl)
          (try simp only [List.getElem_toArray, List.getElem_cons_zero, List.getElem_cons_succ, Act.put, List.setIfInBounds_toArray, List.set_cons_zero, List.set_cons_succ])
          refine wpAnyH_take (i := 2) (v := ?_) rfl (by kernel_rfl) (by kernel_rfl) (by kernel_rfl) (fun _ _ _ h => h) (Or.inl ⟨by rfl, ?_⟩) (by assumption) ?_
          rotate_left
          · intro w hSw
            (try dsimp only at hSw)
            go_simp
            (try with_reducible rfl)
          (try simp only [List.getElem_toArray, List.getElem_cons_zero, List.getElem_cons_succ, Act.put, List.setIfInBounds_toArray, List.set_cons_zero, List.set_cons_succ])
          refine wpAnyH_take (i := 3) (v := ?_) rfl (by kernel_rfl) (by kernel_rfl) (by kernel_rfl) (fun _ _ _ h => h) (Or.inl ⟨by rfl, ?_⟩) (by assumption) ?_
          rotate_left
          · intro w hSw
            (try dsimp only at hSw)
            go_simp
            (try with_reducible rfl)
          (try simp only [List.getElem_toArray, List.getElem_cons_zero, List.getElem_cons_succ, Act.put, List.setIfInBounds_toArray, List.set_cons_zero, List.set_cons_succ])
          refine wpAnyH_take (i := 4) (v := ?_) rfl (by kernel_rfl) (by kernel_rfl) (by kernel_rfl) (fun _ _ _ h => h) (Or.inl ⟨by rfl, ?_⟩) (by assumption) ?_
          rotate_left
          · intro w hSw
            (try dsimp only at hSw)
            go_simp
            (try with_reducible rfl)
          (try simp only [List.getElem_toArray, List.getElem_cons_zero, List.getElem_cons_succ, Act.put, List.setIfInBounds_toArray, List.set_cons_zero, List.set_cons_succ])
          refine wpAnyH_take (i := 5) (v := ?_) rfl (by kernel_rfl) (by kernel_rfl) (by kernel_rfl) (fun _ _ _ h => h) (Or.inl ⟨by rfl, ?_⟩) (by assumption) ?_
          rotate_left
          · intro w hSw
            (try dsimp only at hSw)
            go_simp
            (try with_reducible rfl)
          (try simp only [List.getElem_toArray, List.getElem_cons_zero, List.getElem_cons_succ, Act.put, List.setIfInBounds_toArray, List.set_cons_zero, List.set_cons_succ])
          refine wpAnyH_take (i := 6) (v := ?_) rfl (by kernel_rfl) (by kernel_rfl) (by kernel_rfl) (fun _ _ _ h => h) (Or.inl ⟨by rfl, ?_⟩) (by assumption) ?_
          rotate_left
          · intro w hSw
            (try dsimp only at hSw)
            go_simp
            (try with_reducible rfl)
          (try simp only [List.getElem_toArray, List.getElem_cons_zero, List.getElem_cons_succ, Act.put, List.setIfInBounds_toArray, List.set_cons_zero, List.set_cons_succ])
          refine wpAnyH_ready (rs := [7]) (by kernel_rfl) (by simp) ?_
          refine AllReadyH.cons (o := _) rfl (fun Kc hKc => ?_) AllReadyH.nil
          go_simp
          refine hKc.out _ _ (HS.out _ (hP.alloc _).box (hP.alloc _).bel (hP.alloc _).vbx) (fun hHeld => ?_)
          clear hKc Kc
          (try simp only [List.getElem_toArray, List.getElem_cons_zero, List.getElem_cons_succ, Act.put, List.setIfInBounds_toArray, List.set_cons_zero, List.set_cons_succ])
          have hP1 := hP.alloc (Obj.cells #[.int .i64 s.price] 3)
          have p1 := Pd.new hP 3 (.int .i64 s.price)
          clear hP
          generalize Y0.alloc (Obj.cells #[.int .i64 s.price] 3) = Y1 at *
          generalize Y0.heap.size = g at *
          refine wpAnyH_ready (rs := [8]) (by kernel_rfl) (by simp) ?_
          refine AllReadyH.cons (o := _) rfl (fun Kc hKc => ?_) AllReadyH.nil
          refine step_append_at rfl _ _ 26 rfl pb 3 i0 (.int .i64 0) 1 8 Try.underlying26 hi0 iz0 iz1 iz2 rfl (by decide) cv P.c.length (intV P.c) rfl hP1.pv.c ⟨g, 0, none⟩ 1 1 [.int .i64 s.price] rfl rfl p1.news (by intro u hu; simp at hu; subst hu; rfl) (by unfold maxLen; omega) (by omega) hP1.sz ?_
          intro v3 Y2 o3 hg3 hat3
          obtain ⟨qa3, qc3, rfl⟩ := kown_form o3
          have hP2 := hP1.pc (by decide) (by decide) o3 hg3 hat3
          clear p1 o3 hg3 hat3 hP1
          refine hKc.out _ _ (HS.out _ hP2.box hP2.bel hP2.vbx) (fun hHeld => ?_)
          clear hKc Kc
          (try simp only [List.getElem_toArray, List.getElem_cons_zero, List.getElem_cons_succ, Act.put, List.setIfInBounds_toArray, List.set_cons_zero, List.set_cons_succ])
          refine wpAnyH_take (i := 9) (v := ?_) rfl (by kernel_rfl) (by kernel_rfl) (by kernel_rfl) (fun _ _ _ h => h) (Or.inl ⟨by rfl, ?_⟩) (by assumption) ?_
          rotate_left
          · intro w hSw
            (try dsimp only at hSw)
            go_simp
            (try with_reducible rfl)
          (try simp only [List.getElem_toArray, List.getElem_cons_zero, List.getElem_cons_succ, Act.put, List.setIfInBounds_toArray, List.set_cons_zero, List.set_cons_succ])
          refine wpAnyH_done (by kernel_rfl) ?_ _
          intro r
          have c6 := ibx hP2.box 3 cv rfl
          have f6 := free_at (L := [.slice qa0 (P.rows.length + 1) qc0, .slice qa1 (P.rel.length + 1) qc1, .slice qa2 (P.b.length + 1) qc2, cv]) hP2.box 3
          have hP9 := P3.st (L := [.slice qa0 (P.rows.length + 1) qc0, .slice qa1 (P.rel.length + 1) qc1, .slice qa2 (P.b.length + 1) qc2, cv]) hP2 (by decide) (by decide) HNE.out 3 (.slice qa3 (P.c.length + 1) qc3)
          clear hP2 hHeld HS
          refine wpAny_ready (rs := [10]) (by kernel_rfl) (by simp) ?_
          refine AllReady.cons (o := _) rfl (fun Kc hKc => ?_) AllReady.nil
          go_simp
          refine hKc _ _ ?_
          clear hKc Kc
          (try simp only [List.getElem_toArray, List.getElem_cons_zero, List.getElem_cons_succ, Act.put, List.setIfInBounds_toArray, List.set_cons_zero, List.set_cons_succ])
          refine wpAny_done (by kernel_rfl) ?_ _
          refine NoPanic.normal ?_
          clear c6 f6
          have HP4 := hid hP9
          clear hP9
          generalize Y2.setCell ⟨pb, 3, none⟩ (.slice qa3 (P.c.length + 1) qc3) = Z3 at *
          go_wp2_with fail
          go_roundw
          case rel => exact ⟨k + 1, by omega, by go_num, hid ⟨_, _, _, _, _, by rw [HPT.out]; exact HP4.out⟩⟩
          case measure => simp [intOf]; omega
        | false =>
          have HPT : Hid (P1 V (k + 1) = ⟨P.rows ++ [unitR V.length k], P.rel ++ [-1], P.b ++ [s.qty], P.c ++ [-s.price]⟩) := hid (by rw [HPS.out]; simp [sVr, hb])
          rw [hb] at gb
          have hw1 : IntKind.i64.wrap (-s.price) = -s.price := by have := HRS.out; rw [IntKind.wrap_i64]; omega
          have hw2 : wrap64 (-s.price) = -s.price := by have := HRS.out; simp only [wrap64]; omega
          clear hb HPS HSV
          go_wp2_with fail
          have HS := hid (fun (Y : World) (b1 : Y.heap[pb]? = some (.cells #[.slice qa0 (P.rows.length + 1) qc0, .slice qa1 (P.rel.length + 1) qc1, .slice qa2 (P.b.length + 1) qc2, cv] 34 (0, 0))) (b2 : Below pb W5 Y) (_ : Y.heap[w.heap.size]? = some (.cells #[.int .i64 (net.length : Int), .int .i64 Hs, .slice la L.length lc, .int .i64 lo, .int .i64 hi] 24 (0, 0))) => show (Y.cell? ⟨pb, 3, none⟩ = some cv ∧ Y.cell? ⟨sb, so + k * 7 + 6, none⟩ = some (.int .i64 s.price)) from ⟨ibx b1 3 _ rfl, (HMC.out Y b2).2.2.2.2.2.2⟩)
          have hP := HP3.out.drew
          clear HP3 gb
          refine wp_region_noPanic ?_
          refine region_split (S := fun Y => Y.cell? ⟨pb, 3, none⟩ = some cv ∧ Y.cell? ⟨sb, so + k * 7 + 6, none⟩ = some (.int .i64 s.price)) (late := fun j => Nat.ble 11 j) (k := 4) (m := 1) (last := #[true, true, true, true, true, true, true, true, true, true, true, false]) (mask := #[false, false, false, false, false, false, false, false, false, false, false, true]) (by kernel_rfl) (by kernel_rfl) (by kernel_rfl) (by kernel_rfl) 11 (by kernel_rfl) (HS.out _ hP.box hP.bel hP.vbx) (fun hHeld => ?_)
          generalize Z2.drew = Y0 at *
          refine wpAnyH_take (i := 0) (v := ?_) rfl (by kernel_rfl) (by kernel_rfl) (by kernel_rfl) (fun _ _ _ h => h) (Or.inl ⟨by rfl, ?_⟩) (by assumption) ?_
          rotate_left
          · intro w hSw
            (try dsimp only at hSw)
            go_simp
            (try with_reducible rfl)
          (try simp only [List.getElem_toArray, List.getElem_cons_zero, List.getElem_cons_succ, Act.put, List.setIfInBounds_toArray, List.set_cons_zero, List.set_cons_succ])
          refine wpAnyH_take (i := 1) (v := ?_) rfl (by kernel_rfl) (by kernel_rfl) (by kernel_rfl) (fun _ _ _ h => h) (Or.inl ⟨by rfl, ?_⟩) (by assumption) ?_
          rotate_left
          · intro w hSw
            (try dsimp only at hSw)
            go_simp
            (try with_reducible rfl)
          (try simp only [List.getElem_toArray, List.getElem_cons_zero, List.getElem_cons_succ, Act.put, List.setIfInBounds_toArray, List.set_cons_zero, List.set_cons_succ])
          refine wpAnyH_take (i := 2) (v := ?_) rfl (by kernel_rfl) (by kernel_rfl) (by kernel_rfl) (fun _ _ _ h => h) (Or.inl ⟨by rfl, ?_⟩) (by assumption) ?_
          rotate_left
          · intro w hSw
            (try dsimp only at hSw)
            go_simp
            (try with_reducible rfl)
          (try simp only [List.getElem_toArray, List.getElem_cons_zero, List.getElem_cons_succ, Act.put, List.setIfInBounds_toArray, List.set_cons_zero, List.set_cons_succ])
          refine wpAnyH_take (i := 3) (v := ?_) rfl (by kernel_rfl) (by kernel_rfl) (by kernel_rfl) (fun _ _ _ h => h) (Or.inl ⟨by rfl, ?_⟩) (by assumption) ?_
          rotate_left
          · intro w hSw
            (try dsimp only at hSw)
            go_simp
            (try with_reducible rfl)
          (try simp only [List.getElem_toArray, List.getElem_cons_zero, List.getElem_cons_succ, Act.put, List.setIfInBounds_toArray, List.set_cons_zero, List.set_cons_succ])
          refine wpAnyH_take (i := 4) (v := ?_) rfl (by kernel_rfl) (by kernel_rfl) (by kernel_rfl) (fun _ _ _ h => h) (Or.inl ⟨by rfl, ?_⟩) (by assumption) ?_
          rotate_left
          · intro w hSw
            (try dsimp only at hSw)
            go_simp
            (try with_reducible rfl)
          (try simp only [List.getElem_toArray, List.getElem_cons_zero, List.getElem_cons_succ, Act.put, List.setIfInBounds_toArray, List.set_cons_zero, List.set_cons_succ])
          refine wpAnyH_take (i := 5) (v := ?_) rfl (by kernel_rfl) (by kernel_rfl) (by kernel_rfl) (fun _ _ _ h => h) (Or.inl ⟨by rfl, ?_⟩) (by assumption) ?_
          rotate_left
          · intro w hSw
            (try dsimp only at hSw)
            go_simp
            (try with_reducible rfl)
          (try simp only [List.getElem_toArray, List.getElem_cons_zero, List.getElem_cons_succ, Act.put, List.setIfInBounds_toArray, List.set_cons_zero, List.set_cons_succ])
          refine wpAnyH_take (i := 6) (v := ?_) rfl (by kernel_rfl) (by kernel_rfl) (by kernel_rfl) (fun _ _ _ h => h) (Or.inl ⟨by rfl, ?_⟩) (by assumption) ?_
          rotate_left
          · intro w hSw
            (try dsimp only at hSw)
            go_simp
            (try with_reducible rfl)
          (try simp only [List.getElem_toArray, List.getElem_cons_zero, List.getElem_cons_succ, Act.put, List.setIfInBounds_toArray, List.set_cons_zero, List.set_cons_succ])
          refine wpAnyH_take (i := 7) (v := ?_) rfl (by kernel_rfl) (by kernel_rfl) (by kernel_rfl) (fun _ _ _ h => h) (Or.inl ⟨by rfl, ?_⟩) (by assumption) ?_
          rotate_left
          · intro w hSw
            (try dsimp only at hSw)
            go_simp
            (try with_reducible rfl)
          (try simp only [List.getElem_toArray, List.getElem_cons_zero, List.getElem_cons_succ, Act.put, List.setIfInBounds_toArray, List.set_cons_zero, List.set_cons_succ])
          refine wpAnyH_ready (rs := [8]) (by kernel_rfl) (by simp) ?_
          refine AllReadyH.cons (o := _) rfl (fun Kc hKc => ?_) AllReadyH.nil
          go_simp
          refine hKc.out _ _ (HS.out _ (hP.alloc _).box (hP.alloc _).bel (hP.alloc _).vbx) (fun hHeld => ?_)
          clear hKc Kc
          (try simp only [List.getElem_toArray, List.getElem_cons_zero, List.getElem_cons_succ, Act.put, List.setIfInBounds_toArray, List.set_cons_zero, List.set_cons_succ])
          have hP1 := hP.alloc (Obj.cells #[.int .i64 (-s.price)] 3)
          have p1 := Pd.new hP 3 (.int .i64 (-s.price))
          clear hP
          generalize Y0.alloc (Obj.cells #[.int .i64 (-s.price)] 3) = Y1 at *
          generalize Y0.heap.size = g at *
          refine wpAnyH_ready (rs := [9]) (by kernel_rfl) (by simp) ?_
          refine AllReadyH.cons (o := _) rfl (fun Kc hKc => ?_) AllReadyH.nil
          refine step_append_at rfl _ _ 26 rfl pb 3 i0 (.int .i64 0) 1 8 Try.underlying26 hi0 iz0 iz1 iz2 rfl (by decide) cv P.c.length (intV P.c) rfl hP1.pv.c ⟨g, 0, none⟩ 1 1 [.int .i64 (-s.price)] rfl rfl p1.news (by intro u hu; simp at hu; subst hu; rfl) (by unfold maxLen; omega) (by omega) hP1.sz ?_
          intro v3 Y2 o3 hg3 hat3
          obtain ⟨qa3, qc3, rfl⟩ := kown_form o3
          have hP2 := hP1.pc (by decide) (by decide) o3 hg3 hat3
          clear p1 o3 hg3 hat3 hP1
          refine hKc.out _ _ (HS.out _ hP2.box hP2.bel hP2.vbx) (fun hHeld => ?_)
          clear hKc Kc
          (try simp only [List.getElem_toArray, List.getElem_cons_zero, List.getElem_cons_succ, Act.put, List.setIfInBounds_toArray, List.set_cons_zero, List.set_cons_succ])
          refine wpAnyH_take (i := 10) (v := ?_) rfl (by kernel_rfl) (by kernel_rfl) (by kernel_rfl) (fun _ _ _ h => h) (Or.inl ⟨by rfl, ?_⟩) (by assumption) ?_
          rotate_left
          · intro w hSw
            (try dsimp only at hSw)
            go_simp
            (try with_reducible rfl)
          (try simp only [List.getElem_toArray, List.getElem_cons_zero, List.getElem_cons_succ, Act.put, List.setIfInBounds_toArray, List.set_cons_zero, List.set_cons_succ])
          refine wpAnyH_done (by kernel_rfl) ?_ _
          intro r
          have c6 := ibx hP2.box 3 cv rfl
          have f6 := free_at (L := [.slice qa0 (P.rows.length + 1) qc0, .slice qa1 (P.rel.length + 1) qc1, .slice qa2 (P.b.length + 1) qc2, cv]) hP2.box 3
          have hP9 := P3.st (L := [.slice qa0 (P.rows.length + 1) qc0, .slice qa1 (P.rel.length + 1) qc1, .slice qa2 (P.b.length + 1) qc2, cv]) hP2 (by decide) (by decide) HNE.out 3 (.slice qa3 (P.c.length + 1) qc3)
          clear hP2 hHeld HS
          refine wpAny_ready (rs := [11]) (by kernel_rfl) (by simp) ?_
          refine AllReady.cons (o := _) rfl (fun Kc hKc => ?_) AllReady.nil
          go_simp
          refine hKc _ _ ?_
          clear hKc Kc
          (try simp only [List.getElem_toArray, List.getElem_cons_zero, List.getElem_cons_succ, Act.put, List.setIfInBounds_toArray, List.set_cons_zero, List.set_cons_succ])
          refine wpAny_done (by kernel_rfl) ?_ _
          refine NoPanic.normal ?_
          clear c6 f6
          have HP4 := hid hP9
          clear hP9
          generalize Y2.setCell ⟨pb, 3, none⟩ (.slice qa3 (P.c.length + 1) qc3) = Z3 at *
          go_wp2_with fail
          go_roundw
          case rel => exact ⟨k + 1, by omega, by go_num, hid ⟨_, _, _, _, _, by rw [HPT.out]; exact HP4.out⟩⟩
          case measure => simp [intOf]; omega
      · obtain ⟨j, hkj⟩ : ∃ j, k = M.length + j := ⟨k - M.length, by omega⟩
        have hjL : j < L.length := by have := HLN.out; omega
        have HSV := hid (show V[k] = lVr L[j] from by
          subst hkj
          have := HVL.out (M.length + j) (by omega) hlt (by omega)
          simpa using this)
        have hsub : (k : Int) - (M.length : Int) = (j : Int) := by omega
        have hsub2 : IntKind.i64.wrap ((k : Int) - (M.length : Int)) = (j : Int) := by rw [hsub, IntKind.wrap_i64]; omega
        have hsub3 : wrap64 ((k : Int) - (M.length : Int)) = (j : Int) := by rw [hsub]; simp only [wrap64]; omega
        have hsub4 : IntKind.i64.wrap (j : Int) = (j : Int) := by rw [IntKind.wrap_i64]; omega
        have hsub5 : wrap64 (j : Int) = (j : Int) := by simp only [wrap64]; omega
        have hkj' := hid hkj
        clear hkj
        obtain ⟨sb, so, sc', e, -⟩ := (HL.out.below (HWW.out _ HP2.out.bel)).at j hjL
        simp only [Value.slice.injEq] at e
        obtain ⟨rfl, -, rfl⟩ := e
        have HLC := hid (fun (Y : World) (b : Below pb W5 Y) => show Y.cell? ⟨sb, so + j * 3 + 2, none⟩ = some (.int .i64 L[j].c) from by
          obtain ⟨sb', so', sc', e, h⟩ := (HL.out.below (HWW.out Y b)).at j hjL
          simp only [Value.slice.injEq, Option.some.injEq, Addr.mk.injEq, and_true] at e
          obtain ⟨⟨rfl, rfl⟩, -, -⟩ := e
          exact h.2.2.2.2)
        have hcap := (lnok_iff.1 (HG5.out _ (List.getElem_mem hjL)))
        generalize L[j] = l at *
        have hc0 : 0 ≤ l.c ∧ l.c ≤ 1000 := by omega
        have e2 : (lVr l).hi - (lVr l).lo = 2 * l.c := by simp only [lVr]; omega
        have HPT : Hid (P1 V (k + 1) = ⟨P.rows ++ [unitR V.length k], P.rel ++ [-1], P.b ++ [2 * l.c], P.c ++ [0]⟩) := hid (by rw [HPS.out, HSV.out, e2]; rfl)
        have hw1 : IntKind.i64.wrap (2 * l.c) = 2 * l.c := by rw [IntKind.wrap_i64]; omega
        have hw2 : wrap64 (2 * l.c) = 2 * l.c := by simp only [wrap64]; omega
        clear HPS HSV e2 hcap hc0
        go_wp2_with fail
        generalize R1.setCell ⟨pb, 1, none⟩ (.slice qa1 (P.rel.length + 1) qc1) = Wz at *
        clear s1 f1
        have HS := hid (fun (Y : World) (b1 : Y.heap[pb]? = some (.cells #[.slice qa0 (P.rows.length + 1) qc0, .slice qa1 (P.rel.length + 1) qc1, bv, cv] 34 (0, 0))) (b2 : Below pb W5 Y) (b3 : Y.heap[w.heap.size]? = some (.cells #[.int .i64 (net.length : Int), .int .i64 Hs, .slice (some ⟨sb, so, none⟩) L.length lc, .int .i64 lo, .int .i64 hi] 24 (0, 0))) => show (Y.cell? ⟨pb, 2, none⟩ = some bv ∧ Y.cell? ⟨w.heap.size, 2, none⟩ = some (.slice (some ⟨sb, so, none⟩) L.length lc) ∧ Y.cell? ⟨sb, so + j * 3 + 2, none⟩ = some (.int .i64 l.c)) from ⟨ibx b1 2 _ rfl, ibx b3 2 _ rfl, HLC.out Y b2⟩)
        have hP := HP2.out.drew
        clear HP2
        refine wp_region_noPanic ?_
        refine region_split (S := fun Y => Y.cell? ⟨pb, 2, none⟩ = some bv ∧ Y.cell? ⟨w.heap.size, 2, none⟩ = some (.slice (some ⟨sb, so, none⟩) L.length lc) ∧ Y.cell? ⟨sb, so + j * 3 + 2, none⟩ = some (.int .i64 l.c)) (late := fun j => Nat.ble 15 j) (k := 4) (m := 1) (last := #[true, true, true, true, true, true, true, true, true, true, true, true, true, true, true, false]) (mask := #[false, false, false, false, false, false, false, false, false, false, false, false, false, false, false, true]) (by kernel_rfl) (by kernel_rfl) (by kernel_rfl) (by kernel_rfl) 15 (by kernel_rfl) (HS.out _ hP.box hP.bel hP.vbx) (fun hHeld => ?_)
        generalize Wz.drew = Y0 at *
        refine wpAnyH_take (i := 0) (v := ?_) rfl (by kernel_rfl) (by kernel_rfl) (by kernel_rfl) (fun _ _ _ h => h) (Or.inl ⟨by rfl, ?_⟩) (by assumption) ?_
        rotate_left
        · intro w hSw
          (try dsimp only at hSw)
          go_simp
          (try with_reducible rfl)
        (try simp only [List.getElem_toArray, List.getElem_cons_zero, List.getElem_cons_succ, Act.put, List.setIfInBounds_toArray, List.set_cons_zero, List.set_cons_succ])
        refine wpAnyH_take (i := 1) (v := ?_) rfl (by kernel_rfl) (by kernel_rfl) (by kernel_rfl) (fun _ _ _ h => h) (Or.inl ⟨by rfl, ?_⟩) (by assumption) ?_
        rotate_left
        · intro w hSw
          (try dsimp only at hSw)
          go_simp
          (try with_reducible rfl)
        (try simp only [List.getElem_toArray, List.getElem_cons_zero, List.getElem_cons_succ, Act.put, List.setIfInBounds_toArray, List.set_cons_zero, List.set_cons_succ])
        refine wpAnyH_take (i := 2) (v := ?_) rfl (by kernel_rfl) (by kernel_rfl) (by kernel_rfl) (fun _ _ _ h => h) (Or.inl ⟨by rfl, ?_⟩) (by assumption) ?_
        rotate_left
        · intro w hSw
          (try dsimp only at hSw)
          go_simp
          (try with_reducible rfl)
        (try simp only [List.getElem_toArray, List.getElem_cons_zero, List.getElem_cons_succ, Act.put, List.setIfInBounds_toArray, List.set_cons_zero, List.set_cons_succ])
        refine wpAnyH_take (i := 3) (v := ?_) rfl (by kernel_rfl) (by kernel_rfl) (by kernel_rfl) (fun _ _ _ h => h) (Or.inl ⟨by rfl, ?_⟩) (by assumption) ?_
        rotate_left
        · intro w hSw
          (try dsimp only at hSw)
          go_simp
          (try with_reducible rfl)
        (try simp only [List.getElem_toArray, List.getElem_cons_zero, List.getElem_cons_succ, Act.put, List.setIfInBounds_toArray, List.set_cons_zero, List.set_cons_succ])
        refine wpAnyH_take (i := 4) (v := ?_) rfl (by kernel_rfl) (by kernel_rfl) (by kernel_rfl) (fun _ _ _ h => h) (Or.inl ⟨by rfl, ?_⟩) (by assumption) ?_
        rotate_left
        · intro w hSw
          (try dsimp only at hSw)
          go_simp
          (try with_reducible rfl)
        (try simp only [List.getElem_toArray, List.getElem_cons_zero, List.getElem_cons_succ, Act.put, List.setIfInBounds_toArray, List.set_cons_zero, List.set_cons_succ])
        refine wpAnyH_take (i := 5) (v := ?_) rfl (by kernel_rfl) (by kernel_rfl) (by kernel_rfl) (fun _ _ _ h => h) (Or.inl ⟨by rfl, ?_⟩) (by assumption) ?_
        rotate_left
        · intro w hSw
          (try dsimp only at hSw)
          go_simp
          (try with_reducible rfl)
        (try simp only [List.getElem_toArray, List.getElem_cons_zero, List.getElem_cons_succ, Act.put, List.setIfInBounds_toArray, List.set_cons_zero, List.set_cons_succ])
        refine wpAnyH_take (i := 6) (v := ?_) rfl (by kernel_rfl) (by kernel_rfl) (by kernel_rfl) (fun _ _ _ h => h) (Or.inl ⟨by rfl, ?_⟩) (by assumption) ?_
        rotate_left
        · intro w hSw
          (try dsimp only at hSw)
          go_simp
          (try with_reducible rfl)
        (try simp only [List.getElem_toArray, List.getElem_cons_zero, List.getElem_cons_succ, Act.put, List.setIfInBounds_toArray, List.set_cons_zero, List.set_cons_succ])
        refine wpAnyH_take (i := 7) (v := ?_) rfl (by kernel_rfl) (by kernel_rfl) (by kernel_rfl) (fun _ _ _ h => h) (Or.inl ⟨by rfl, ?_⟩) (by assumption) ?_
        rotate_left
        · intro w hSw
          (try dsimp only at hSw)
          go_simp
          (try with_reducible rfl)
        (try simp only [List.getElem_toArray, List.getElem_cons_zero, List.getElem_cons_succ, Act.put, List.setIfInBounds_toArray, List.set_cons_zero, List.set_cons_succ])
        refine wpAnyH_take (i := 8) (v := ?_) rfl (by kernel_rfl) (by kernel_rfl) (by kernel_rfl) (fun _ _ _ h => h) (Or.inl ⟨by rfl, ?_⟩) (by assumption) ?_
        rotate_left
        · intro w hSw
          (try dsimp only at hSw)
          go_simp
          (try with_reducible rfl)
        (try simp only [List.getElem_toArray, List.getElem_cons_zero, List.getElem_cons_succ, Act.put, List.setIfInBounds_toArray, List.set_cons_zero, List.set_cons_succ])
        refine wpAnyH_take (i := 9) (v := ?_) rfl (by kernel_rfl) (by kernel_rfl) (by kernel_rfl) (fun _ _ _ h => h) (Or.inl ⟨by rfl, ?_⟩) (by assumption) ?_
        rotate_left
        · intro w hSw
          (try dsimp only at hSw)
          go_simp
          (try with_reducible rfl)
        (try simp only [List.getElem_toArray, List.getElem_cons_zero, List.getElem_cons_succ, Act.put, List.setIfInBounds_toArray, List.set_cons_zero, List.set_cons_succ])
        refine wpAnyH_take (i := 10) (v := ?_) rfl (by kernel_rfl) (by kernel_rfl) (by kernel_rfl) (fun _ _ _ h => h) (Or.inl ⟨by rfl, ?_⟩) (by assumption) ?_
        rotate_left
        · intro w hSw
          (try dsimp only at hSw)
          go_simp
          (try with_reducible rfl)
        (try simp only [List.getElem_toArray, List.getElem_cons_zero, List.getElem_cons_succ, Act.put, List.setIfInBounds_toArray, List.set_cons_zero, List.set_cons_succ])
        refine wpAnyH_take (i := 11) (v := ?_) rfl (by kernel_rfl) (by kernel_rfl) (by kernel_rfl) (fun _ _ _ h => h) (Or.inl ⟨by rfl, ?_⟩) (by assumption) ?_
        rotate_left
        · intro w hSw
          (try dsimp only at hSw)
          go_simp
          (try with_reducible rfl)
        (try simp only [List.getElem_toArray, List.getElem_cons_zero, List.getElem_cons_succ, Act.put, List.setIfInBounds_toArray, List.set_cons_zero, List.set_cons_succ])
        refine wpAnyH_ready (rs := [12]) (by kernel_rfl) (by simp) ?_
        refine AllReadyH.cons (o := _) rfl (fun Kc hKc => ?_) AllReadyH.nil
        go_simp
        refine hKc.out _ _ (HS.out _ (hP.alloc _).box (hP.alloc _).bel (hP.alloc _).vbx) (fun hHeld => ?_)
        clear hKc Kc
        (try simp only [List.getElem_toArray, List.getElem_cons_zero, List.getElem_cons_succ, Act.put, List.setIfInBounds_toArray, List.set_cons_zero, List.set_cons_succ])
        have hP1 := hP.alloc (Obj.cells #[.int .i64 (2 * l.c)] 3)
        have p1 := Pd.new hP 3 (.int .i64 (2 * l.c))
        clear hP
        generalize Y0.alloc (Obj.cells #[.int .i64 (2 * l.c)] 3) = Y1 at *
        generalize Y0.heap.size = g at *
        refine wpAnyH_ready (rs := [13]) (by kernel_rfl) (by simp) ?_
        refine AllReadyH.cons (o := _) rfl (fun Kc hKc => ?_) AllReadyH.nil
        refine step_append_at rfl _ _ 26 rfl pb 3 i0 (.int .i64 0) 1 8 Try.underlying26 hi0 iz0 iz1 iz2 rfl (by decide) bv P.b.length (intV P.b) rfl hP1.pv.b ⟨g, 0, none⟩ 1 1 [.int .i64 (2 * l.c)] rfl rfl p1.news (by intro u hu; simp at hu; subst hu; rfl) (by unfold maxLen; omega) (by omega) hP1.sz ?_
        intro v2 Y2 o2 hg2 hat2
        obtain ⟨qa2, qc2, rfl⟩ := kown_form o2
        have hP2 := hP1.pb_ (by decide) (by decide) o2 hg2 hat2
        clear p1 o2 hg2 hat2 hP1
        refine hKc.out _ _ (HS.out _ hP2.box hP2.bel hP2.vbx) (fun hHeld => ?_)
        clear hKc Kc
        (try simp only [List.getElem_toArray, List.getElem_cons_zero, List.getElem_cons_succ, Act.put, List.setIfInBounds_toArray, List.set_cons_zero, List.set_cons_succ])
        refine wpAnyH_take (i := 14) (v := ?_) rfl (by kernel_rfl) (by kernel_rfl) (by kernel_rfl) (fun _ _ _ h => h) (Or.inl ⟨by rfl, ?_⟩) (by assumption) ?_
        rotate_left
        · intro w hSw
          (try dsimp only at hSw)
          go_simp
          (try with_reducible rfl)
        (try simp only [List.getElem_toArray, List.getElem_cons_zero, List.getElem_cons_succ, Act.put, List.setIfInBounds_toArray, List.set_cons_zero, List.set_cons_succ])
        refine wpAnyH_done (by kernel_rfl) ?_ _
        intro r
        have c6 := ibx hP2.box 2 bv rfl
        have f6 := free_at (L := [.slice qa0 (P.rows.length + 1) qc0, .slice qa1 (P.rel.length + 1) qc1, bv, cv]) hP2.box 2
        have hP9 := P3.st (L := [.slice qa0 (P.rows.length + 1) qc0, .slice qa1 (P.rel.length + 1) qc1, bv, cv]) hP2 (by decide) (by decide) HNE.out 2 (.slice qa2 (P.b.length + 1) qc2)
        clear hP2 hHeld HS
        refine wpAny_ready (rs := [15]) (by kernel_rfl) (by simp) ?_
        refine AllReady.cons (o := _) rfl (fun Kc hKc => ?_) AllReady.nil
        go_simp
        refine hKc _ _ ?_
        clear hKc Kc
        (try simp only [List.getElem_toArray, List.getElem_cons_zero, List.getElem_cons_succ, Act.put, List.setIfInBounds_toArray, List.set_cons_zero, List.set_cons_succ])
        refine wpAny_done (by kernel_rfl) ?_ _
        refine NoPanic.normal ?_
        clear c6 f6
        have HP3 := hid hP9
        clear hP9
        generalize Y2.setCell ⟨pb, 2, none⟩ (.slice qa2 (P.b.length + 1) qc2) = Z2 at *
        have HA3 := hid (HP3.out.alloc (Obj.cells #[.int .i64 0] 3))
        have HQ3 := hid (Pd.new HP3.out 3 (.int .i64 0))
        (try simp only [World.size_alloc, set_size] at HQ3)
        have hown3 : (Z2.alloc (Obj.cells #[.int .i64 0] 3)).ownsRow pb 3 1 cv P.c.length (intV P.c) := HA3.out.pv.c
        have y3 := ibx HP3.out.box 3 cv rfl
        go_wp2_with (first | (at_builtin; refine wpList_append_own_at _ rfl _ _ 26 rfl pb 3 i0 (.int .i64 0) 1 8 Try.underlying26 hi0 iz0 iz1 iz2 rfl (by decide) cv P.c.length (intV P.c) rfl hown3 ⟨_, 0, none⟩ 1 1 [.int .i64 0] rfl rfl HQ3.out.news (by intro u hu; simp at hu; subst hu; rfl) (by unfold maxLen; omega) (by omega) HA3.out.sz ?_) | fail)
        intro v3 R3 o3 hg3 _ hat3
        obtain ⟨qa3, qc3, rfl⟩ := kown_form o3
        have HPc := hid (HA3.out.pc (by decide) (by decide) o3 hg3 (by rw [World.size_alloc]; exact hat3))
        have HP4 := hid (P3.st (L := [.slice qa0 (P.rows.length + 1) qc0, .slice qa1 (P.rel.length + 1) qc1, .slice qa2 (P.b.length + 1) qc2, cv]) HPc.out (by decide) (by decide) HNE.out 3 (.slice qa3 (P.c.length + 1) qc3))
        have s3 := ibx HPc.out.box 3 cv rfl
        have f3 := free_at (L := [.slice qa0 (P.rows.length + 1) qc0, .slice qa1 (P.rel.length + 1) qc1, .slice qa2 (P.b.length + 1) qc2, cv]) HPc.out.box 3
        clear o3 hg3 hat3 hown3 y3 HA3 HQ3 HPc HP3
        go_wp2_with fail
        go_roundw
        case rel => exact ⟨k + 1, by omega, by go_num, hid ⟨_, _, _, _, _, by rw [HPT.out]; exact HP4.out⟩⟩
        case measure => simp [intOf]; omega
    · obtain rfl : k = V.length := by omega
      have HB0 : Hid (Bx3 34 24 wr W5 pb w.heap.size #[.int .i64 (net.length : Int), .int .i64 Hs, .slice la L.length lc, .int .i64 lo, .int .i64 hi] (P2 V net 0)) := hid (by rw [← P2_zero]; exact HBX.out)
      have HVO : Hid (∀ v ∈ V, VOk v) := hid (fun v hv => by
        rw [← HVE.out] at hv
        unfold vrs at hv
        rcases List.mem_append.1 hv with h | h
        · obtain ⟨s, h1, rfl⟩ := List.mem_map.1 h
          obtain ⟨q1, q2, q3, q4⟩ := rgS_iff.1 (HRN.out.1 s (List.mem_filter.1 h1).1)
          unfold sVr VOk
          split <;> simp only <;> omega
        · obtain ⟨l, h1, rfl⟩ := List.mem_map.1 h
          have := lnok_iff.1 (HG5.out l h1)
          unfold lVr VOk
          simp only
          omega)
      have HLO : Hid (∀ i (h : i < V.length), i < M.length → V[i].lo = 0) := hid (fun i h h2 => by
        rw [HVS.out i h2 h]
        unfold sVr
        split <;> rfl)
      clear HBX hlt hk
      go_wp2_with fail
      go_loopw [14] (fun iv wr => ∃ k : Nat, k ≤ net.length ∧ iv = .int .i64 (k : Int) ∧ Hid (Bx3 34 24 wr W5 pb w.heap.size #[.int .i64 (net.length : Int), .int .i64 Hs, .slice la L.length lc, .int .i64 lo, .int .i64 hi] (P2 V net k))) (fun iv _ => net.length - (intOf iv).toNat)
      case atStart => exact ⟨0, Nat.zero_le _, rfl, HB0⟩
      case round =>
        clear HB0
        obtain ⟨k, hk, rfl, HBX⟩ := hrel
        generalize wr = w2 at *
        obtain ⟨vs, rv, ev, bv, cv, hp3⟩ := HBX.out
        have z0 := ibx hp3.vbx 0 (.int .i64 (net.length : Int)) rfl
        by_cases hlt : k < net.length
        · obtain ⟨gn, on, gc, e, _, _, hn0⟩ := (HN.out.below (HWW.out w2 hp3.bel)).at k hlt
          simp only [Value.slice.injEq] at e
          obtain ⟨rfl, -, rfl⟩ := e
          have hx := rgN_iff.1 (HRN.out.2 _ (List.getElem_mem hlt))
          have HPS := hid (P2_succ V net k hlt)
          obtain ⟨m1, m2, m3⟩ := P2_len V net k hV67 HZN.out (by omega)
          generalize net[k] = x at *
          generalize P2 V net k = P at *
          obtain ⟨x1, x2⟩ := hx
          have hwn : IntKind.i64.wrap (-x) = -x := by rw [IntKind.wrap_i64]; omega
          have hwn2 : wrap64 (-x) = -x := by simp only [wrap64]; omega
          have HMK := kmake V.length (by omega)
          have HIO0 : Hid (IO (w2.alloc (Obj.cells (intV (List.replicate V.length 0)).toArray 3)) pb (Value.slice (some ⟨w2.heap.size, 0, none⟩) V.length V.length) (prt V (k : Int) 0)) := hid (by rw [prt_zero]; exact kmade_io w2 pb V.length hp3.sz (by omega))
          have HBM := hid (ibel w2 (Obj.cells (intV (List.replicate V.length 0)).toArray 3))
          have hn1 := ikc HBM.out hn0
          have HP3 := hid hp3
          clear HBX hp3 hn0
          go_wp2_with fail
          go_loopw [17] (fun iv wr => ∃ j : Nat, j ≤ M.length ∧ iv = .int .i64 (j : Int) ∧ Hid (IO wr pb (Value.slice (some ⟨w2.heap.size, 0, none⟩) V.length V.length) (prt V (k : Int) j)) ∧ Hid (Below w2.heap.size w2 wr)) (fun iv _ => M.length - (intOf iv).toNat)
          case atStart => exact ⟨0, Nat.zero_le _, rfl, HIO0, HBM⟩
          case round =>
            clear HIO0 HBM HMK hn1 z0
            obtain ⟨j, hj, rfl, HIO, HB3⟩ := hrel
            have HW3 := hid (HP3.out.bel.trans (HB3.out.mono HP3.out.sz))
            by_cases hjl : j < M.length
            · have hjV : j < V.length := by have := HLN.out; omega
              obtain ⟨sb, so, sc', e, -⟩ := (HVW.out _ HW3.out).at j hjl
              simp only [Value.slice.injEq] at e
              obtain ⟨rfl, -, rfl⟩ := e
              have HMC := hid (fun (Y : World) (b0 : Below w2.heap.size w2 Y) => show SpAt Y sb (so + j * 7) M[j] from by
                have b := HP3.out.bel.trans (b0.mono HP3.out.sz)
                obtain ⟨sb', so', sc', e, h⟩ := (HVW.out Y b).at j hjl
                simp only [Value.slice.injEq, Option.some.injEq, Addr.mk.injEq, and_true] at e
                obtain ⟨⟨rfl, rfl⟩, -, -⟩ := e
                exact h)
              have HPR := hid (prt_succ V (k : Int) j hjV)
              have HGV := hid (show gvs V[j] (k : Int) = gvs (sVr M[j]) (k : Int) from by rw [HVS.out j hjl hjV])
              have HLL := hid (prt_len V (k : Int) j (by omega))
              have HSK := hid (prt_skip V (k : Int) j hjV)
              generalize M[j] = s at *
              obtain ⟨-, -, c2, -, c4, -, -⟩ := HMC.out _ HB3.out
              by_cases hzk : s.zone = (k : Int)
              · cases hb : s.buy with
                | true =>
                  rw [show gvs (sVr s) (k : Int) = -1 from by unfold gvs sVr; rw [if_pos hb]; simp only; rw [if_neg (by omega), if_pos hzk.symm]] at HGV
                  rw [hzk] at c2
                  rw [hb] at c4
                  obtain ⟨⟨u0, hu0⟩, hu1, hio8⟩ := HIO.out.put HLL.out j hjV (-1)
                  have HIO8 := hid (show IO (wr.setCell ⟨w2.heap.size, j, none⟩ (.int .i64 (-1))) pb (Value.slice (some ⟨w2.heap.size, 0, none⟩) V.length V.length) (prt V (k : Int) (j + 1)) from by
                    have h8 := HPR.out
                    rw [HGV.out] at h8
                    exact h8 ▸ hio8)
                  have HB8 := hid (HB3.out.setCell (p := ⟨w2.heap.size, j, none⟩) (Nat.le_refl _) (.int .i64 (-1)))
                  have HC8 := HMC.out _ (HB8.out)
                  obtain ⟨-, -, d2, -, d4, -, -⟩ := HC8
                  rw [hzk] at d2
                  rw [hb] at d4
                  clear hio8 hzk HPR HGV HIO HB3 HLL HMC
                  go_wp2_with fail
                  go_roundw
                  case rel => exact ⟨j + 1, by omega, by go_num, HIO8, HB8⟩
                  case measure => simp [intOf]; omega
                | false =>
                  rw [show gvs (sVr s) (k : Int) = 1 from by rw [show sVr s = ⟨-1, s.zone, 0, s.qty, -s.price⟩ from by unfold sVr; rw [if_neg (by rw [hb]; decide)]]; unfold gvs; simp only; rw [if_pos hzk.symm]] at HGV
                  rw [hzk] at c2
                  rw [hb] at c4
                  obtain ⟨⟨u0, hu0⟩, hu1, hio8⟩ := HIO.out.put HLL.out j hjV (1)
                  have HIO8 := hid (show IO (wr.setCell ⟨w2.heap.size, j, none⟩ (.int .i64 (1))) pb (Value.slice (some ⟨w2.heap.size, 0, none⟩) V.length V.length) (prt V (k : Int) (j + 1)) from by
                    have h8 := HPR.out
                    rw [HGV.out] at h8
                    exact h8 ▸ hio8)
                  have HB8 := hid (HB3.out.setCell (p := ⟨w2.heap.size, j, none⟩) (Nat.le_refl _) (.int .i64 (1)))
                  have HC8 := HMC.out _ (HB8.out)
                  obtain ⟨-, -, d2, -, d4, -, -⟩ := HC8
                  rw [hzk] at d2
                  rw [hb] at d4
                  clear hio8 hzk HPR HGV HIO HB3 HLL HMC
                  go_wp2_with fail
                  go_roundw
                  case rel => exact ⟨j + 1, by omega, by go_num, HIO8, HB8⟩
                  case measure => simp [intOf]; omega
              · have hzb : (s.zone == (k : Int)) = false := by simpa using hzk
                rw [show gvs (sVr s) (k : Int) = 0 from by unfold gvs sVr; split <;> simp only <;> rw [if_neg (by omega), if_neg (by omega)]] at HGV
                have HIO8 := hid (show IO wr pb (Value.slice (some ⟨w2.heap.size, 0, none⟩) V.length V.length) (prt V (k : Int) (j + 1)) from by rw [HSK.out HGV.out]; exact HIO.out)
                generalize s.zone = sz at *
                clear HPR HGV HIO HLL HMC HSK
                go_wp2_with fail
                go_roundw
                case rel => exact ⟨j + 1, by omega, by go_num, HIO8, HB3⟩
                case measure => simp [intOf]; omega
            · obtain rfl : j = M.length := by omega
              have HRZ := hid (rgt_zero V x (k : Int) M.length (by have := HLN.out; omega) HLO.out)
              clear hjl hj
              go_wp2_with fail
              go_loopw [16, 18] (fun r iv wr => ∃ j : Nat, j ≤ L.length ∧ iv = .int .i64 (j : Int) ∧ r = .int .i64 (rgt (V.take (M.length + j)) x (k : Int)) ∧ Hid (IO wr pb (Value.slice (some ⟨w2.heap.size, 0, none⟩) V.length V.length) (prt V (k : Int) (M.length + j))) ∧ Hid (Below w2.heap.size w2 wr)) (fun _ iv _ => L.length - (intOf iv).toNat)
              case atStart => exact ⟨0, Nat.zero_le _, rfl, by rw [Nat.add_zero, HRZ.out], HIO, HB3⟩
              case round =>
                clear HIO HB3 HRZ HW3
                obtain ⟨j, hj, rfl, rfl, HIO, HB3⟩ := hrel
                have HW3 := hid (HP3.out.bel.trans (HB3.out.mono HP3.out.sz))
                have HG2 := hid (fun (Y : World) (b0 : Below w2.heap.size w2 Y) => ibx ((b0.block _ (lt_of_block HP3.out.vbx)).trans HP3.out.vbx) 2 (.slice la L.length lc) rfl)
                have g2 := HG2.out _ HB3.out
                by_cases hjl : j < L.length
                · obtain ⟨lb, lof, lcc, e, -⟩ := (HL.out.below (HWW.out _ HW3.out)).at j hjl
                  simp only [Value.slice.injEq] at e
                  obtain ⟨rfl, -, rfl⟩ := e
                  have HMC := hid (fun (Y : World) (b0 : Below w2.heap.size w2 Y) => show Y.cell? ⟨lb, lof + j * 3, none⟩ = some (.int .i64 L[j].f) ∧ Y.cell? ⟨lb, lof + j * 3 + 1, none⟩ = some (.int .i64 L[j].t) ∧ Y.cell? ⟨lb, lof + j * 3 + 2, none⟩ = some (.int .i64 L[j].c) from by
                    have b := HP3.out.bel.trans (b0.mono HP3.out.sz)
                    obtain ⟨sb', so', sc', e, h⟩ := (HL.out.below (HWW.out Y b)).at j hjl
                    simp only [Value.slice.injEq, Option.some.injEq, Addr.mk.injEq, and_true] at e
                    obtain ⟨⟨rfl, rfl⟩, -, -⟩ := e
                    exact ⟨h.2.2.1, h.2.2.2.1, h.2.2.2.2⟩)
                  have hlk := lnok_iff.1 (HG5.out _ (List.getElem_mem hjl))
                  obtain ⟨i, hij⟩ : ∃ i, i = M.length + j := ⟨_, rfl⟩
                  have hiV : i < V.length := by have := HLN.out; omega
                  have HVQ := hid (show V[i] = lVr L[j] from by
                    subst hij
                    have := HVL.out (M.length + j) (by omega) hiV (by omega)
                    simpa using this)
                  have HPR := hid (prt_succ V (k : Int) i hiV)
                  have HRS := hid (rgt_succ V x (k : Int) i hiV)
                  have HGV := hid (show gvs V[i] (k : Int) = gvs (lVr L[j]) (k : Int) from by rw [HVQ.out])
                  have HLL := hid (prt_len V (k : Int) i (by omega))
                  have HSK := hid (prt_skip V (k : Int) i hiV)
                  have hrb := rgt_bound V HVO.out x (k : Int) x1 x2 i (by omega)
                  rw [← hij] at HIO
                  rw [← hij]
                  have hi67 : i < 67 := Nat.lt_of_lt_of_le hiV hV67
                  have hs0 : (M.length : Int) + (j : Int) = (i : Int) := by rw [hij]; exact (Int.natCast_add _ _).symm
                  have hs1 : IntKind.i64.wrap ((M.length : Int) + (j : Int)) = (i : Int) := by rw [hs0]; exact ws_i i hi67
                  have hs2 : wrap64 ((M.length : Int) + (j : Int)) = (i : Int) := by rw [hs0]; exact ws_w i hi67
                  have hs3 := ws_i i hi67
                  have hs4 := ws_w i hi67
                  have HIJ := hid hij
                  clear hij
                  generalize L[j] = l at *
                  generalize rgt (V.take i) x (k : Int) = r at *
                  have hrc : -200000 ≤ r - l.c ∧ r - l.c ≤ 200000 ∧ -200000 ≤ r + l.c ∧ r + l.c ≤ 200000 := rg_c hrb hi67 hlk.2.2.2.2.2.1 hlk.2.2.2.2.2.2
                  obtain ⟨c0, c1, c2⟩ := HMC.out _ HB3.out
                  by_cases hzk : l.f = (k : Int)
                  · have htb : (l.t == (k : Int)) = false := by simpa using (show ¬ l.t = (k : Int) by omega)
                    rw [show gvs (lVr l) (k : Int) = -1 from by unfold gvs lVr; simp only; rw [if_neg (by omega), if_pos hzk.symm]] at HGV
                    rw [hzk] at c0
                    obtain ⟨⟨u0, hu0⟩, hu1, hio8⟩ := HIO.out.put HLL.out i hiV (-1)
                    have HIO8 := hid (show IO (wr.setCell ⟨w2.heap.size, i, none⟩ (.int .i64 (-1))) pb (Value.slice (some ⟨w2.heap.size, 0, none⟩) V.length V.length) (prt V (k : Int) (i + 1)) from by
                      have h8 := HPR.out
                      rw [HGV.out] at h8
                      exact h8 ▸ hio8)
                    have HB8 := hid (HB3.out.setCell (p := ⟨w2.heap.size, i, none⟩) (Nat.le_refl _) (.int .i64 (-1)))
                    have HRR := hid (show rgt (V.take (i + 1)) x (k : Int) = r - l.c from by rw [HRS.out, HGV.out, HVQ.out]; exact rg_0 r l)
                    obtain ⟨d0, d1, d2⟩ := HMC.out _ HB8.out
                    have g2' := HG2.out _ HB8.out
                    have hw1 : IntKind.i64.wrap (r - l.c) = r - l.c := ws_ri _ hrc.1 hrc.2.1
                    have hw2 : wrap64 (r - l.c) = r - l.c := ws_rw _ hrc.1 hrc.2.1
                    clear hrc
                    rw [hzk] at d0
                    clear hio8 hzk HPR HGV HIO HB3 HLL HMC HRS HVQ hlk hrb
                    have HBN := HB8
                    go_wp2_with fail
                    go_roundw
                    case rel => exact ⟨j + 1, by omega, by go_num, by first | rfl | (rw [show M.length + (j + 1) = i + 1 from by have := HIJ.out; omega, HRR.out]), by rw [show M.length + (j + 1) = i + 1 from by have := HIJ.out; omega]; exact HIO8, HBN⟩
                    case measure => simp [intOf]; omega
                  by_cases hzk2 : l.t = (k : Int)
                  · have htb : (l.f == (k : Int)) = false := by simpa using hzk
                    rw [show gvs (lVr l) (k : Int) = 1 from by unfold gvs lVr; simp only; rw [if_pos hzk2.symm]] at HGV
                    clear hzk
                    have hzk := hzk2
                    clear hzk2
                    rw [hzk] at c1
                    obtain ⟨⟨u0, hu0⟩, hu1, hio8⟩ := HIO.out.put HLL.out i hiV (1)
                    have HIO8 := hid (show IO (wr.setCell ⟨w2.heap.size, i, none⟩ (.int .i64 (1))) pb (Value.slice (some ⟨w2.heap.size, 0, none⟩) V.length V.length) (prt V (k : Int) (i + 1)) from by
                      have h8 := HPR.out
                      rw [HGV.out] at h8
                      exact h8 ▸ hio8)
                    have HB8 := hid (HB3.out.setCell (p := ⟨w2.heap.size, i, none⟩) (Nat.le_refl _) (.int .i64 (1)))
                    have HRR := hid (show rgt (V.take (i + 1)) x (k : Int) = r + l.c from by rw [HRS.out, HGV.out, HVQ.out]; exact rg_1 r l)
                    obtain ⟨d0, d1, d2⟩ := HMC.out _ HB8.out
                    have g2' := HG2.out _ HB8.out
                    have hw1 : IntKind.i64.wrap (r + l.c) = r + l.c := ws_ri _ hrc.2.2.1 hrc.2.2.2
                    have hw2 : wrap64 (r + l.c) = r + l.c := ws_rw _ hrc.2.2.1 hrc.2.2.2
                    clear hrc
                    rw [hzk] at d1
                    clear hio8 hzk HPR HGV HIO HB3 HLL HMC HRS HVQ hlk hrb
                    have HBN := HB8
                    go_wp2_with fail
                    go_roundw
                    case rel => exact ⟨j + 1, by omega, by go_num, by first | rfl | (rw [show M.length + (j + 1) = i + 1 from by have := HIJ.out; omega, HRR.out]), by rw [show M.length + (j + 1) = i + 1 from by have := HIJ.out; omega]; exact HIO8, HBN⟩
                    case measure => simp [intOf]; omega
                  · have hfb : (l.f == (k : Int)) = false := by simpa using hzk
                    have htb : (l.t == (k : Int)) = false := by simpa using hzk2
                    rw [show gvs (lVr l) (k : Int) = 0 from by unfold gvs lVr; simp only; rw [if_neg (by omega), if_neg (by omega)]] at HGV
                    have HIO8 := hid (show IO wr pb (Value.slice (some ⟨w2.heap.size, 0, none⟩) V.length V.length) (prt V (k : Int) (i + 1)) from by rw [HSK.out HGV.out]; exact HIO.out)
                    have HRR := hid (show rgt (V.take (i + 1)) x (k : Int) = r from by rw [HRS.out, HGV.out, Int.zero_mul, Int.sub_zero])
                    have HBN := HB3
                    clear HPR HGV HIO HLL HMC HSK HRS HVQ hlk hrb hrc hzk hzk2
                    go_wp2_with fail
                    go_roundw
                    case rel => exact ⟨j + 1, by omega, by go_num, by first | rfl | (rw [show M.length + (j + 1) = i + 1 from by have := HIJ.out; omega, HRR.out]), by rw [show M.length + (j + 1) = i + 1 from by have := HIJ.out; omega]; exact HIO8, HBN⟩
                    case measure => simp [intOf]; omega

                · obtain rfl : j = L.length := by omega
                  obtain hLV : M.length + L.length = V.length := HLN.out.symm
                  have HIO9 : Hid (IO wr pb (Value.slice (some ⟨w2.heap.size, 0, none⟩) V.length V.length) (V.map (fun v => gvs v (k : Int)))) := hid (by have h9 := HIO.out; rw [hLV, prt_all] at h9; exact h9)
                  rw [show rgt (V.take (M.length + L.length)) x (k : Int) = rgt V x (k : Int) by rw [hLV, List.take_length]]
                  have HP0 : Hid (P3 34 24 W5 wr pb w.heap.size vs P rv ev bv cv #[rv, ev, bv, cv] #[.int .i64 (net.length : Int), .int .i64 Hs, .slice la L.length lc, .int .i64 lo, .int .i64 hi]) :=
                    hid ⟨HP3.out.pv.below HB3.out, (HB3.out.block _ (lt_of_block HP3.out.box)).trans HP3.out.box, (HB3.out.block _ (lt_of_block HP3.out.vbx)).trans HP3.out.vbx, HW3.out, Nat.le_trans HP3.out.sz HB3.out.size⟩
                  have HD : Hid (DB (Value.slice (some ⟨w2.heap.size, 0, none⟩) V.length V.length) ev ∧ DB (Value.slice (some ⟨w2.heap.size, 0, none⟩) V.length V.length) bv ∧ DB (Value.slice (some ⟨w2.heap.size, 0, none⟩) V.length V.length) cv) :=
                    hid ⟨(DB.new (v := (Value.slice (some ⟨w2.heap.size, 0, none⟩) V.length V.length)) rfl (fun x hx => (World.ownsRow.lt HP3.out.pv.rel x hx).2)).symm, (DB.new (v := (Value.slice (some ⟨w2.heap.size, 0, none⟩) V.length V.length)) rfl (fun x hx => (World.ownsRow.lt HP3.out.pv.b x hx).2)).symm, (DB.new (v := (Value.slice (some ⟨w2.heap.size, 0, none⟩) V.length V.length)) rfl (fun x hx => (World.ownsRow.lt HP3.out.pv.c x hx).2)).symm⟩
                  clear HIO HB3 HW3 HP3 hwn hwn2 HG2 hjl hj hLV
                  generalize V.map (fun v => gvs v (k : Int)) = LU at *
                  generalize rgt V x (k : Int) = rz at *
                  generalize wr = Wz at *
                  generalize w2.heap.size = g at *
                  have HA0 := hid (HP0.out.alloc (Obj.cells #[(Value.slice (some ⟨g, 0, none⟩) V.length V.length)] 26))
                  have HQ0 := hid (Pd.new HP0.out 26 ((Value.slice (some ⟨g, 0, none⟩) V.length V.length)))
                  (try simp only [World.size_alloc, set_size] at HQ0)
                  have hown0 : (Wz.alloc (Obj.cells #[(Value.slice (some ⟨g, 0, none⟩) V.length V.length)] 26)).ownsRow pb 26 1 rv P.rows.length vs := HA0.out.pv.rows
                  have y0 := ibx HP0.out.box 0 rv rfl
                  go_wp2_with (first | (at_builtin; refine wpList_append_own_at _ rfl _ _ 30 rfl pb 26 j0 (.slice none 0 0) 1 24 Try.underlying30 hj0 jz0 jz1 jz2 rfl (by decide) rv P.rows.length vs rfl hown0 ⟨_, 0, none⟩ 1 1 [(Value.slice (some ⟨g, 0, none⟩) V.length V.length)] rfl rfl HQ0.out.news (by intro u hu; simp at hu; subst hu; rfl) (by unfold maxLen; omega) (by omega) HA0.out.sz ?_) | fail)
                  intro v0 R0 o0 hg0 _ hat0
                  obtain ⟨qa0, qc0, rfl⟩ := kown_form o0
                  have HIOA := hid (World.ownsRow.alloc HIO9.out (Obj.cells #[(Value.slice (some ⟨g, 0, none⟩) V.length V.length)] 26))
                  have HPa := hid (HA0.out.pr (by decide) (by decide) (L := LU) HIOA.out HD.out.1 HD.out.2.1 HD.out.2.2 o0 hg0)
                  have HP1 := hid (P3.st (L := [rv, ev, bv, cv]) HPa.out (by decide) (by decide) HNE.out 0 (.slice qa0 (P.rows.length + 1) qc0))
                  have s0 := ibx HPa.out.box 0 rv rfl
                  have f0 := free_at (L := [rv, ev, bv, cv]) HPa.out.box 0
                  have y1p := ibx HPa.out.box 1 ev rfl
                  clear o0 hg0 hat0 hown0 y0 HA0 HQ0 HIO9 HIOA HD HPa HP0
                  have HA1 := hid (HP1.out.alloc (Obj.cells #[.int .i64 0] 3))
                  have HQ1 := hid (Pd.new HP1.out 3 (.int .i64 0))
                  (try simp only [World.size_alloc, set_size] at HQ1)
                  have hown1 : ((R0.setCell ⟨pb, 0, none⟩ (.slice qa0 (P.rows.length + 1) qc0)).alloc (Obj.cells #[.int .i64 0] 3)).ownsRow pb 3 1 ev P.rel.length (intV P.rel) := HA1.out.pv.rel
                  have y1 := ibx HP1.out.box 1 ev rfl
                  go_wp2_with (first | (at_builtin; refine wpList_append_own_at _ rfl _ _ 26 rfl pb 3 i0 (.int .i64 0) 1 8 Try.underlying26 hi0 iz0 iz1 iz2 rfl (by decide) ev P.rel.length (intV P.rel) rfl hown1 ⟨_, 0, none⟩ 1 1 [.int .i64 0] rfl rfl HQ1.out.news (by intro u hu; simp at hu; subst hu; rfl) (by unfold maxLen; omega) (by omega) HA1.out.sz ?_) | fail)
                  intro v1 R1 o1 hg1 _ hat1
                  obtain ⟨qa1, qc1, rfl⟩ := kown_form o1
                  have HPb := hid (HA1.out.pe (by decide) (by decide) o1 hg1 (by rw [World.size_alloc, set_size]; exact hat1))
                  have HP2 := hid (P3.st (L := [.slice qa0 (P.rows.length + 1) qc0, ev, bv, cv]) HPb.out (by decide) (by decide) HNE.out 1 (.slice qa1 (P.rel.length + 1) qc1))
                  have s1 := ibx HPb.out.box 1 ev rfl
                  have f1 := free_at (L := [.slice qa0 (P.rows.length + 1) qc0, ev, bv, cv]) HPb.out.box 1
                  clear s0 f0 y1p o1 hg1 hat1 hown1 y1 HA1 HQ1 HPb HP1
                  have HA2 := hid (HP2.out.alloc (Obj.cells #[.int .i64 rz] 3))
                  have HQ2 := hid (Pd.new HP2.out 3 (.int .i64 rz))
                  (try simp only [World.size_alloc, set_size] at HQ2)
                  have hown2 : ((R1.setCell ⟨pb, 1, none⟩ (.slice qa1 (P.rel.length + 1) qc1)).alloc (Obj.cells #[.int .i64 rz] 3)).ownsRow pb 3 1 bv P.b.length (intV P.b) := HA2.out.pv.b
                  have y2 := ibx HP2.out.box 2 bv rfl
                  go_wp2_with (first | (at_builtin; refine wpList_append_own_at _ rfl _ _ 26 rfl pb 3 i0 (.int .i64 0) 1 8 Try.underlying26 hi0 iz0 iz1 iz2 rfl (by decide) bv P.b.length (intV P.b) rfl hown2 ⟨_, 0, none⟩ 1 1 [.int .i64 rz] rfl rfl HQ2.out.news (by intro u hu; simp at hu; subst hu; rfl) (by unfold maxLen; omega) (by omega) HA2.out.sz ?_) | fail)
                  intro v2 R2 o2 hg2 _ hat2
                  obtain ⟨qa2, qc2, rfl⟩ := kown_form o2
                  have HPc := hid (HA2.out.pb_ (by decide) (by decide) o2 hg2 (by rw [World.size_alloc, set_size]; exact hat2))
                  have HP4 := hid (P3.st (L := [.slice qa0 (P.rows.length + 1) qc0, .slice qa1 (P.rel.length + 1) qc1, bv, cv]) HPc.out (by decide) (by decide) HNE.out 2 (.slice qa2 (P.b.length + 1) qc2))
                  have s2 := ibx HPc.out.box 2 bv rfl
                  have f2 := free_at (L := [.slice qa0 (P.rows.length + 1) qc0, .slice qa1 (P.rel.length + 1) qc1, bv, cv]) HPc.out.box 2
                  clear s1 f1 o2 hg2 hat2 hown2 y2 HA2 HQ2 HPc HP2
                  go_wp2_with fail
                  go_roundw
                  case rel => exact ⟨k + 1, by omega, by go_num, hid ⟨_, _, _, _, _, by rw [HPS.out]; exact HP4.out⟩⟩
                  case measure => simp [intOf]; omega
        · obtain rfl : k = net.length := by omega
          have hbx := hp3.box
          have hpv := hp3.pv
          have hbel := hp3.bel
          have hsz := hp3.sz
          clear hp3 HBX
          obtain ⟨qa0, qc0, rfl⟩ := kown_form hpv.rows
          obtain ⟨qa1, qc1, rfl⟩ := kown_form (show w2.ownsRow pb 3 1 ev _ _ from hpv.rel)
          obtain ⟨qa2, qc2, rfl⟩ := kown_form (show w2.ownsRow pb 3 1 bv _ _ from hpv.b)
          obtain ⟨qa3, qc3, rfl⟩ := kown_form (show w2.ownsRow pb 3 1 cv _ _ from hpv.c)
          have c0 := ibx hbx 0 _ rfl
          have c1 := ibx hbx 1 _ rfl
          have c2 := ibx hbx 2 _ rfl
          have c3 := ibx hbx 3 _ rfl
          have xr := HXR.out w2 hbel
          have r0 := ibx xr 0 (.slice none 0 0) rfl
          have r1 := ibx xr 1 (.slice none 0 0) rfl
          have r2 := ibx xr 2 (.slice none 0 0) rfl
          have r3 := ibx xr 3 (.slice none 0 0) rfl
          have f0 := free_at (L := [.slice none 0 0, .slice none 0 0, .slice none 0 0, .slice none 0 0]) xr 0
          have f1 := free_at (L := [.slice none 0 0, .slice none 0 0, .slice none 0 0, .slice none 0 0]) xr 1
          have f2 := free_at (L := [.slice none 0 0, .slice none 0 0, .slice none 0 0, .slice none 0 0]) xr 2
          have f3 := free_at (L := [.slice none 0 0, .slice none 0 0, .slice none 0 0, .slice none 0 0]) xr 3
          have e0 : (w2.setCell ⟨w.heap.size + 1, 0, none⟩ (.slice qa0 (P2 V net net.length).rows.length qc0)).heap[w.heap.size + 1]? = some (.cells #[.slice qa0 (P2 V net net.length).rows.length qc0, .slice none 0 0, .slice none 0 0, .slice none 0 0] 34 (0, 0)) := by simpa using set_at (L := [.slice none 0 0, .slice none 0 0, .slice none 0 0, .slice none 0 0]) (k := 0) (v := (.slice qa0 (P2 V net net.length).rows.length qc0)) xr
          have v0 := hpv.set (i := 0) xr (by decide) (by decide) (.slice qa0 (P2 V net net.length).rows.length qc0)
          have d0 := (HWW.out w2 hbel).setCell (p := ⟨w.heap.size + 1, 0, none⟩) (by show w.heap.size ≤ w.heap.size + 1; omega) (.slice qa0 (P2 V net net.length).rows.length qc0)
          have e1 : ((w2.setCell ⟨w.heap.size + 1, 0, none⟩ (.slice qa0 (P2 V net net.length).rows.length qc0)).setCell ⟨w.heap.size + 1, 1, none⟩ (.slice qa1 (P2 V net net.length).rel.length qc1)).heap[w.heap.size + 1]? = some (.cells #[.slice qa0 (P2 V net net.length).rows.length qc0, .slice qa1 (P2 V net net.length).rel.length qc1, .slice none 0 0, .slice none 0 0] 34 (0, 0)) := by simpa using set_at (L := [.slice qa0 (P2 V net net.length).rows.length qc0, .slice none 0 0, .slice none 0 0, .slice none 0 0]) (k := 1) (v := (.slice qa1 (P2 V net net.length).rel.length qc1)) e0
          have v1 := v0.set (i := 1) e0 (by decide) (by decide) (.slice qa1 (P2 V net net.length).rel.length qc1)
          have d1 := d0.setCell (p := ⟨w.heap.size + 1, 1, none⟩) (by show w.heap.size ≤ w.heap.size + 1; omega) (.slice qa1 (P2 V net net.length).rel.length qc1)
          have e2 : (((w2.setCell ⟨w.heap.size + 1, 0, none⟩ (.slice qa0 (P2 V net net.length).rows.length qc0)).setCell ⟨w.heap.size + 1, 1, none⟩ (.slice qa1 (P2 V net net.length).rel.length qc1)).setCell ⟨w.heap.size + 1, 2, none⟩ (.slice qa2 (P2 V net net.length).b.length qc2)).heap[w.heap.size + 1]? = some (.cells #[.slice qa0 (P2 V net net.length).rows.length qc0, .slice qa1 (P2 V net net.length).rel.length qc1, .slice qa2 (P2 V net net.length).b.length qc2, .slice none 0 0] 34 (0, 0)) := by simpa using set_at (L := [.slice qa0 (P2 V net net.length).rows.length qc0, .slice qa1 (P2 V net net.length).rel.length qc1, .slice none 0 0, .slice none 0 0]) (k := 2) (v := (.slice qa2 (P2 V net net.length).b.length qc2)) e1
          have v2 := v1.set (i := 2) e1 (by decide) (by decide) (.slice qa2 (P2 V net net.length).b.length qc2)
          have d2 := d1.setCell (p := ⟨w.heap.size + 1, 2, none⟩) (by show w.heap.size ≤ w.heap.size + 1; omega) (.slice qa2 (P2 V net net.length).b.length qc2)
          have e3 : ((((w2.setCell ⟨w.heap.size + 1, 0, none⟩ (.slice qa0 (P2 V net net.length).rows.length qc0)).setCell ⟨w.heap.size + 1, 1, none⟩ (.slice qa1 (P2 V net net.length).rel.length qc1)).setCell ⟨w.heap.size + 1, 2, none⟩ (.slice qa2 (P2 V net net.length).b.length qc2)).setCell ⟨w.heap.size + 1, 3, none⟩ (.slice qa3 (P2 V net net.length).c.length qc3)).heap[w.heap.size + 1]? = some (.cells #[.slice qa0 (P2 V net net.length).rows.length qc0, .slice qa1 (P2 V net net.length).rel.length qc1, .slice qa2 (P2 V net net.length).b.length qc2, .slice qa3 (P2 V net net.length).c.length qc3] 34 (0, 0)) := by simpa using set_at (L := [.slice qa0 (P2 V net net.length).rows.length qc0, .slice qa1 (P2 V net net.length).rel.length qc1, .slice qa2 (P2 V net net.length).b.length qc2, .slice none 0 0]) (k := 3) (v := (.slice qa3 (P2 V net net.length).c.length qc3)) e2
          have v3 := v2.set (i := 3) e2 (by decide) (by decide) (.slice qa3 (P2 V net net.length).c.length qc3)
          have d3 := d2.setCell (p := ⟨w.heap.size + 1, 3, none⟩) (by show w.heap.size ≤ w.heap.size + 1; omega) (.slice qa3 (P2 V net net.length).c.length qc3)
          have y0 := ibx e3 0 _ rfl
          have y1 := ibx e3 1 _ rfl
          have y2 := ibx e3 2 _ rfl
          have y3 := ibx e3 3 _ rfl
          have HO := hid (And.intro y0 (And.intro y1 (And.intro y2 y3)))
          have HPV := hid v3
          have HDD := hid d3
          clear hbx hpv hbel hsz xr e0 e1 e2 e3 v0 v1 v2 v3 d0 d1 d2 d3 y0 y1 y2 y3
          go_wp2_with fail
          exact bodyPost_ret (v := .agg #[.slice qa0 (P2 V net net.length).rows.length qc0, .slice qa1 (P2 V net net.length).rel.length qc1, .slice qa2 (P2 V net net.length).b.length qc2, .slice qa3 (P2 V net net.length).c.length qc3]) (by simp [results, Try.results7, go_sem, HO.out.1, HO.out.2.1, HO.out.2.2.1, HO.out.2.2.2]) rfl ⟨_, _, _, _, rfl, by rw [HVE.out, ← P2_end]; exact HPV.out.prb, HDD.out⟩
end Go.Proofs.Ytlkcfgjhgmpbcaa
