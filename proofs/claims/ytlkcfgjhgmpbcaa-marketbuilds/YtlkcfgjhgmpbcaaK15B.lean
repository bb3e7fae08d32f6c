/- market: a trial of the region. -/
import Derived.Test.YtlkcfgjhgmpbcaaKP3
import Derived.Test.YtlkcfgjhgmpbcaaICheckP
namespace Go.Proofs.Ytlkcfgjhgmpbcaa
open Go.RowKit
set_option linter.unusedVariables false
set_option maxRecDepth 100000
set_option linter.unusedSimpArgs false

def P1 (V : List Vr) (k : Nat) : Prb := ⟨(List.range k).map (unitR V.length), List.replicate k (-1), (V.take k).map (fun v => v.hi - v.lo), (V.take k).map (fun v => v.wo)⟩
theorem P1_succ (V : List Vr) (k : Nat) (h : k < V.length) : P1 V (k + 1) = ⟨(P1 V k).rows ++ [unitR V.length k], (P1 V k).rel ++ [-1], (P1 V k).b ++ [V[k].hi - V[k].lo], (P1 V k).c ++ [V[k].wo]⟩ := by
  simp only [P1, List.range_succ, List.map_append, List.map_cons, List.map_nil, List.take_succ_eq_append_getElem h, List.replicate_succ']
theorem P1_len (V : List Vr) (k : Nat) (h : k ≤ V.length) : (P1 V k).rows.length = k ∧ (P1 V k).rel.length = k ∧ (P1 V k).b.length = k ∧ (P1 V k).c.length = k := by
  simp [P1]; omega
def VOk (v : Vr) : Prop := -1000 ≤ v.lo ∧ v.lo ≤ 0 ∧ 0 ≤ v.hi ∧ v.hi ≤ 1000
theorem kset_io (V : World) (base n : Nat) (hb : base ≤ V.heap.size) (hn : n ≤ 1000) (k : Nat) (x : Int) : IO (V.alloc (.cells ((intV (List.replicate n 0)).set k (.int .i64 x)).toArray 3)) base (.slice (some ⟨V.heap.size, 0, none⟩) n n) ((List.replicate n 0).set k x) := by
  have := World.ownsRow_lit (e := 3) (size := 1) V ((intV (List.replicate n 0)).set k (.int .i64 x)).toArray n hb (by unfold maxLen; omega) (by simp [intV])
  unfold IO
  rw [List.length_set, List.length_replicate]
  rw [← intV_set]
  simpa using this
theorem IO.cellI {w : World} {base g n c : Nat} {L : List Int} (h : IO w base (.slice (some ⟨g, 0, none⟩) n c) L) (hl : L.length = n) (i : Nat) (hi : i < n) : w.cell? ⟨g, i, none⟩ = some (.int .i64 (L[i]'(by omega))) := by
  have h' : w.ownsRow base 3 1 (.slice (some ⟨g, 0, none⟩) n c) n (intV L) := by have := h; unfold IO at this; rw [hl] at this; exact this
  rw [h'.cellAt i (by omega)]
  rw [List.getElem?_eq_getElem (by rw [intV_len]; omega), intV_at L i (by omega)]
def P2 (V : List Vr) (net : List Int) (k : Nat) : Prb := ⟨(List.range V.length).map (unitR V.length) ++ (List.range k).map (fun (z : Nat) => V.map (fun v => gvs v (z : Int))), List.replicate V.length (-1) ++ List.replicate k 0, V.map (fun v => v.hi - v.lo) ++ (List.range k).map (fun (z : Nat) => rgt V (net.getD z 0) (z : Int)), V.map (fun v => v.wo)⟩
theorem P2_zero (V : List Vr) (net : List Int) : P1 V V.length = P2 V net 0 := by simp [P1, P2]
theorem P2_end (V : List Vr) (net : List Int) : P2 V net net.length = bldP V net := rfl
theorem P2_succ (V : List Vr) (net : List Int) (k : Nat) (h : k < net.length) : P2 V net (k + 1) = ⟨(P2 V net k).rows ++ [V.map (fun v => gvs v (k : Int))], (P2 V net k).rel ++ [0], (P2 V net k).b ++ [rgt V net[k] (k : Int)], (P2 V net k).c⟩ := by
  simp only [P2, List.range_succ, List.map_append, List.map_cons, List.map_nil, List.replicate_succ', List.append_assoc]
  rw [show net.getD k 0 = net[k] from by simp [List.getD, List.getElem?_eq_getElem h]]
theorem P2_len (V : List Vr) (net : List Int) (k : Nat) (hV : V.length ≤ 67) (hn : net.length ≤ 3) (h : k ≤ net.length) : (P2 V net k).rows.length ≤ 70 ∧ (P2 V net k).rel.length ≤ 70 ∧ (P2 V net k).b.length ≤ 70 := by
  simp [P2]; omega
/-- A row, half laid. -/
def prt (V : List Vr) (z : Int) (j : Nat) : List Int := (V.take j).map (fun v => gvs v z) ++ List.replicate (V.length - j) 0
theorem prt_zero (V : List Vr) (z : Int) : prt V z 0 = List.replicate V.length 0 := by simp [prt]
theorem prt_all (V : List Vr) (z : Int) : prt V z V.length = V.map (fun v => gvs v z) := by simp [prt]
theorem prt_len (V : List Vr) (z : Int) (j : Nat) (h : j ≤ V.length) : (prt V z j).length = V.length := by simp [prt]; omega
theorem prt_succ (V : List Vr) (z : Int) (j : Nat) (h : j < V.length) : (prt V z j).set j (gvs V[j] z) = prt V z (j + 1) := by
  unfold prt
  rw [List.set_append_right _ _ (by simp; omega), List.take_succ_eq_append_getElem h, List.map_append, List.append_assoc]
  congr 1
  rw [show V.length - j = (V.length - (j + 1)) + 1 by omega, List.replicate_succ, show j - ((V.take j).map (fun v => gvs v z)).length = 0 by simp; omega]
  rfl
theorem rgt_succ (V : List Vr) (x z : Int) (j : Nat) (h : j < V.length) : rgt (V.take (j + 1)) x z = rgt (V.take j) x z - gvs V[j] z * V[j].lo := by
  unfold rgt
  rw [List.take_succ_eq_append_getElem h, List.foldl_append]
  rfl
theorem gvs_mul (v : Vr) (z : Int) (h1 : -1000 ≤ v.lo) (h2 : v.lo ≤ 0) : -1000 ≤ gvs v z * v.lo ∧ gvs v z * v.lo ≤ 1000 := by
  unfold gvs
  split
  · omega
  · split <;> omega
theorem rgt_bound (V : List Vr) (hv : ∀ v ∈ V, VOk v) (x z : Int) (h1 : -100000 ≤ x) (h2 : x ≤ 100000) : ∀ j, j ≤ V.length → -100000 - 1000 * (j : Int) ≤ rgt (V.take j) x z ∧ rgt (V.take j) x z ≤ 100000 + 1000 * (j : Int)
  | 0, _ => by simp [rgt]; omega
  | j + 1, h => by
    have ih := rgt_bound V hv x z h1 h2 j (by omega)
    obtain ⟨a, b, _, _⟩ := hv V[j] (List.getElem_mem _)
    have := gvs_mul V[j] z a b
    rw [rgt_succ V x z j (by omega)]
    omega
/-- A problem under way, in its box. -/
def Bx (w W5 : World) (pb : Nat) (P : Prb) : Prop := ∃ vs rv ev bv cv, w.heap[pb]? = some (.cells #[rv, ev, bv, cv] 32 (0, 0)) ∧ PV w pb vs P rv ev bv cv ∧ Below pb W5 w ∧ pb ≤ w.heap.size
set_option maxHeartbeats 25600000 in
theorem build_any (w : World) (Z Hs lo hi H : Int) (la : Option Addr) (lc : Nat) (L : List Ln) (hL : Lns w (.slice la L.length lc) L) (sa : Option Addr) (sc : Nat) (S : List Sp) (hs : Sps w (.slice sa S.length sc) S) (na : Option Addr) (nc : Nat) (net : List Int) (hn : Ints w (.slice na net.length nc) net) (ok : gok ⟨Z, Hs, lo, hi, L⟩ = true) (hz : Z = (net.length : Int)) (hS : S.length ≤ 64) (hR : Rgt S net) :
    Calls Try.prog 6 #[.agg #[.int .i64 Z, .int .i64 Hs, .slice la L.length lc, .int .i64 lo, .int .i64 hi], .slice sa S.length sc, .int .i64 H, .slice na net.length nc] w fun e w' => ∃ rv ev bv cv, e = .returned (.agg #[rv, ev, bv, cv]) ∧ IsPrb w' rv ev bv cv (bldP (vrs Z H S L) net) ∧ Below w.heap.size w w' := by
  obtain ⟨g1, g2, g3, g4, g5⟩ := gok_iff.1 ok
  simp only at g1 g4 g5
  have HN := hid hn
  have HL := hid hL
  have HS0 := hid hs
  have HRN := hid hR.2
  have HZN : Hid (net.length ≤ 3) := hid (by omega)
  obtain ⟨na', nc', ne, nl, nm⟩ := hn.slice
  simp only [Value.slice.injEq] at ne
  obtain ⟨rfl, -, rfl⟩ := ne
  unfold maxLen at nm
  have b1 := ibel w (Obj.cells #[.int .i64 Z, .int .i64 Hs, .slice la L.length lc, .int .i64 lo, .int .i64 hi] 24)
  have x1 := inew w (Obj.cells #[.int .i64 Z, .int .i64 Hs, .slice la L.length lc, .int .i64 lo, .int .i64 hi] 24)
  have b2 := ibel (w.alloc (Obj.cells #[.int .i64 Z, .int .i64 Hs, .slice la L.length lc, .int .i64 lo, .int .i64 hi] 24)) (Obj.cells #[.slice none 0 0, .slice none 0 0, .slice none 0 0, .slice none 0 0] 32)
  have x2 := inew (w.alloc (Obj.cells #[.int .i64 Z, .int .i64 Hs, .slice la L.length lc, .int .i64 lo, .int .i64 hi] 24)) (Obj.cells #[.slice none 0 0, .slice none 0 0, .slice none 0 0, .slice none 0 0] 32)
  have x1' := (b2.block _ (lt_of_block x1)).trans x1
  have B2 := chain2 b1 b2
  have HE : Hid (errG ⟨Z, Hs, lo, hi, L⟩ = 0) := hid (by unfold errG; rw [if_pos ok])
  have HCH := hid (icheck_any ((w.alloc (Obj.cells #[.int .i64 Z, .int .i64 Hs, .slice la L.length lc, .int .i64 lo, .int .i64 hi] 24)).alloc (Obj.cells #[.slice none 0 0, .slice none 0 0, .slice none 0 0, .slice none 0 0] 32)) ⟨Z, Hs, lo, hi, L⟩ la lc (HL.out.below B2))
  rw [HE.out] at HCH
  simp only at HCH
  have z0 := ibx x1' 0 (.int .i64 Z) rfl
  have z1 := ibx x1' 1 (.int .i64 Hs) rfl
  have z2 := ibx x1' 2 (.slice la L.length lc) rfl
  have z3 := ibx x1' 3 (.int .i64 lo) rfl
  have z4 := ibx x1' 4 (.int .i64 hi) rfl
  have hC : ∀ l ∈ L, 0 ≤ l.c ∧ l.c ≤ 1000 := fun l hl => by have := lnok_iff.1 (g5 l hl); omega
  have HVA := hid (fun (Y : World) (b : Below w.heap.size w Y) => variables_any Y Z Hs lo hi H la lc L (HL.out.below b) sa sc S (HS0.out.below b) hS g4 hR.1 hC)
  have HVO0 : Hid (∀ v ∈ vrs Z H S L, VOk v) := hid (fun v hv => by
    unfold vrs at hv
    rcases List.mem_append.1 hv with h | h
    · obtain ⟨s, h1, rfl⟩ := List.mem_map.1 h
      obtain ⟨q1, q2, q3, q4⟩ := rgS_iff.1 (hR.1 s (List.mem_filter.1 h1).1)
      unfold sVr VOk
      split <;> simp only <;> omega
    · obtain ⟨l, h1, rfl⟩ := List.mem_map.1 h
      have := hC l h1
      unfold lVr VOk
      simp only
      omega)
  have HX1 := hid x1'
  have HB2 := hid B2
  have HX2 := hid x2
  simp only [World.size_alloc] at HX2
  clear hL hs hn ok g1 g3 g5 hC b1 x1 b2 x2 x1' B2 HE
  subst hz
  go_enter Try.func6, Try.ntmps6
  go_wp2_with fail
  generalize (w.alloc (Obj.cells #[.int .i64 (net.length : Int), .int .i64 Hs, .slice la L.length lc, .int .i64 lo, .int .i64 hi] 24)).alloc (Obj.cells #[.slice none 0 0, .slice none 0 0, .slice none 0 0, .slice none 0 0] 32) = W2 at *
  refine HCH.out.mono ?_
  rintro e W3 ⟨rfl, b3⟩
  have z0 := ikc b3 z0
  have z1 := ikc b3 z1
  have z2 := ikc b3 z2
  have z3 := ikc b3 z3
  have z4 := ikc b3 z4
  have HB3 := hid (chain2 HB2.out b3)
  have HX23 := hid ((b3.block _ (lt_of_block HX2.out)).trans HX2.out)
  clear HCH HX1 HX2 b3
  go_wp2_with fail
  refine (HVA.out W3 HB3.out).mono ?_
  rintro e W4 ⟨lv, rfl, hlv, b4⟩
  obtain ⟨va, vc, rfl, vl, vm⟩ := hlv.slice
  have HB4 := hid (chain2 HB3.out b4)
  have HX24 := hid ((b4.block _ (lt_of_block HX23.out)).trans HX23.out)
  have HVO : Hid (∀ v ∈ vrs (net.length : Int) H S L, VOk v) := hid HVO0.out
  have HVL : Hid ((vrs (net.length : Int) H S L).length ≤ 67) := hid (by
    unfold vrs
    rw [List.length_append, List.length_map, List.length_map]
    have h1 : (ofH (net.length : Int) H S).length ≤ S.length := List.length_filter_le _ _
    omega)
  have HLV := hid hlv
  have bA := ibel W4 (Obj.cells #[.slice none 0 0, .slice none 0 0, .slice none 0 0, .slice none 0 0] 32)
  have x5 := inew W4 (Obj.cells #[.slice none 0 0, .slice none 0 0, .slice none 0 0, .slice none 0 0] 32)
  clear hlv b4 HB3 HX23 HVA z0 z1 z2 z3 z4
  generalize hVe : vrs (net.length : Int) H S L = V at *
  have HVE := hid hVe
  clear hVe
  have hV67 : V.length ≤ 67 := HVL.out
  go_wp2_with fail
  generalize W4.alloc (Obj.cells #[.slice none 0 0, .slice none 0 0, .slice none 0 0, .slice none 0 0] 32) = W5 at *
  have HVW := hid (fun (Y : World) (b : Below W4.heap.size W5 Y) => HLV.out.below (bA.trans b))
  have HWW := hid (fun (Y : World) (b : Below W4.heap.size W5 Y) => show Below w.heap.size w Y from HB4.out.trans ((bA.trans b).mono HB4.out.size))
  have HX4P : Hid (w.heap.size + 1 < W4.heap.size) := hid (lt_of_block HX24.out)
  have HXR := hid (fun (Y : World) (b : Below W4.heap.size W5 Y) => show Y.heap[w.heap.size + 1]? = some (.cells #[.slice none 0 0, .slice none 0 0, .slice none 0 0, .slice none 0 0] 32 (0, 0)) from ((bA.trans b).block _ HX4P.out).trans HX24.out)
  have HBX0 : Hid (Bx W5 W5 W4.heap.size (P1 V 0)) := hid ⟨[], _, _, _, _, x5, by simpa [P1] using PV.none W5 W4.heap.size, Below.refl _ _, bA.size⟩
  obtain ⟨j0, hj0, jz0, jz1, jz2⟩ := kparts kinfo_ints
  obtain ⟨i0, hi0, iz0, iz1, iz2⟩ := kparts kinfo_int
  clear HLV HB4 HX24 bA x5
  generalize hpbE : W4.heap.size = pb at *
  clear hpbE
  go_loopw [37] (fun iv wr => ∃ k : Nat, k ≤ V.length ∧ iv = .int .i64 (k : Int) ∧ Hid (Bx wr W5 pb (P1 V k))) (fun iv _ => V.length - (intOf iv).toNat)
  case atStart => exact ⟨0, Nat.zero_le _, rfl, HBX0⟩
  case round =>
    clear HBX0
    obtain ⟨k, hk, rfl, HBX⟩ := hrel
    by_cases hlt : k < V.length
    · obtain ⟨vs, rv, ev, bv, cv, hbx, hpv, hbel, hsz⟩ := HBX.out
      obtain ⟨g, gc, e, hgb, hcell⟩ := (HVW.out wr hbel).at k hlt
      simp only [Value.slice.injEq] at e
      obtain ⟨rfl, -, rfl⟩ := e
      have hc0 := hcell 0 _ rfl
      have hc1 := hcell 1 _ rfl
      have hc2 := hcell 2 _ rfl
      have hc3 := hcell 3 _ rfl
      have hc4 := hcell 4 _ rfl
      rw [Nat.add_zero] at hc0
      have hvo := HVO.out _ (List.getElem_mem hlt)
      have HPS := hid (P1_succ V k hlt)
      obtain ⟨l1, l2, l3, l4⟩ := P1_len V k (by omega)
      have m1 : (P1 V k).rows.length ≤ 67 := by omega
      have m2 : (P1 V k).rel.length ≤ 67 := by omega
      have m3 : (P1 V k).b.length ≤ 67 := by omega
      have m4 : (P1 V k).c.length ≤ 67 := by omega
      clear l1 l2 l3 l4
      generalize V[k] = v at *
      generalize P1 V k = P at *
      obtain ⟨o1, o2, o3, o4⟩ := hvo
      have hk67 : k < 67 := by omega
      have hw1 : IntKind.i64.wrap (v.hi - v.lo) = v.hi - v.lo := by rw [IntKind.wrap_i64]; omega
      have hw2 : wrap64 (v.hi - v.lo) = v.hi - v.lo := by simp only [wrap64]; omega
      have HMK := kmake V.length (by omega)
      have b6 := ibel wr (Obj.cells #[.int .i64 v.f, .int .i64 v.t, .int .i64 v.lo, .int .i64 v.hi, .int .i64 v.wo] 48)
      have x6 := inew wr (Obj.cells #[.int .i64 v.f, .int .i64 v.t, .int .i64 v.lo, .int .i64 v.hi, .int .i64 v.wo] 48)
      have hp6 := hpv.alloc (Obj.cells #[.int .i64 v.f, .int .i64 v.t, .int .i64 v.lo, .int .i64 v.hi, .int .i64 v.wo] 48)
      have hb6 := hbel.alloc hsz (Obj.cells #[.int .i64 v.f, .int .i64 v.t, .int .i64 v.lo, .int .i64 v.hi, .int .i64 v.wo] 48)
      have hx6 := (b6.block _ (lt_of_block hbx)).trans hbx
      have hs6 : pb ≤ (wr.alloc (Obj.cells #[.int .i64 v.f, .int .i64 v.t, .int .i64 v.lo, .int .i64 v.hi, .int .i64 v.wo] 48)).heap.size := by rw [World.size_alloc]; omega
      have io7 := kmade_io (wr.alloc (Obj.cells #[.int .i64 v.f, .int .i64 v.t, .int .i64 v.lo, .int .i64 v.hi, .int .i64 v.wo] 48)) pb V.length hs6 (by omega)
      obtain ⟨⟨u0, hu0⟩, hu1, -⟩ := io7.put (by simp) k hlt 1
      have b8 := ibel (wr.alloc (Obj.cells #[.int .i64 v.f, .int .i64 v.t, .int .i64 v.lo, .int .i64 v.hi, .int .i64 v.wo] 48)) (Obj.cells ((intV (List.replicate V.length 0)).set k (.int .i64 1)).toArray 3)
      have hio8 := kset_io (wr.alloc (Obj.cells #[.int .i64 v.f, .int .i64 v.t, .int .i64 v.lo, .int .i64 v.hi, .int .i64 v.wo] 48)) pb V.length hs6 (by omega) k 1
      have HP8 : Hid (P3 32 48 W5 ((wr.alloc (Obj.cells #[.int .i64 v.f, .int .i64 v.t, .int .i64 v.lo, .int .i64 v.hi, .int .i64 v.wo] 48)).alloc (Obj.cells ((intV (List.replicate V.length 0)).set k (.int .i64 1)).toArray 3)) pb wr.heap.size vs P rv ev bv cv #[rv, ev, bv, cv] #[.int .i64 v.f, .int .i64 v.t, .int .i64 v.lo, .int .i64 v.hi, .int .i64 v.wo]) :=
        hid ⟨hp6.below b8, (b8.block _ (lt_of_block hx6)).trans hx6, (b8.block _ (lt_of_block x6)).trans x6, hb6.trans (b8.mono hs6), Nat.le_trans hs6 b8.size⟩
      have HIO8 := hid (show IO _ pb (.slice (some ⟨(wr.alloc (Obj.cells #[.int .i64 v.f, .int .i64 v.t, .int .i64 v.lo, .int .i64 v.hi, .int .i64 v.wo] 48)).heap.size, 0, none⟩) V.length V.length) (unitR V.length k) from hio8)
      have HD : Hid (DB (.slice (some ⟨(wr.alloc (Obj.cells #[.int .i64 v.f, .int .i64 v.t, .int .i64 v.lo, .int .i64 v.hi, .int .i64 v.wo] 48)).heap.size, 0, none⟩) V.length V.length) ev ∧ DB (.slice (some ⟨(wr.alloc (Obj.cells #[.int .i64 v.f, .int .i64 v.t, .int .i64 v.lo, .int .i64 v.hi, .int .i64 v.wo] 48)).heap.size, 0, none⟩) V.length V.length) bv ∧ DB (.slice (some ⟨(wr.alloc (Obj.cells #[.int .i64 v.f, .int .i64 v.t, .int .i64 v.lo, .int .i64 v.hi, .int .i64 v.wo] 48)).heap.size, 0, none⟩) V.length V.length) cv) :=
        hid ⟨(DB.new (v := .slice (some ⟨(wr.alloc (Obj.cells #[.int .i64 v.f, .int .i64 v.t, .int .i64 v.lo, .int .i64 v.hi, .int .i64 v.wo] 48)).heap.size, 0, none⟩) V.length V.length) rfl (fun x hx => (World.ownsRow.lt hp6.rel x hx).2)).symm, (DB.new (v := .slice (some ⟨(wr.alloc (Obj.cells #[.int .i64 v.f, .int .i64 v.t, .int .i64 v.lo, .int .i64 v.hi, .int .i64 v.wo] 48)).heap.size, 0, none⟩) V.length V.length) rfl (fun x hx => (World.ownsRow.lt hp6.b x hx).2)).symm, (DB.new (v := .slice (some ⟨(wr.alloc (Obj.cells #[.int .i64 v.f, .int .i64 v.t, .int .i64 v.lo, .int .i64 v.hi, .int .i64 v.wo] 48)).heap.size, 0, none⟩) V.length V.length) rfl (fun x hx => (World.ownsRow.lt hp6.c x hx).2)).symm⟩
      have HVP : Hid (wr.heap.size ≠ pb) := hid (by have := lt_of_block hbx; omega)
      simp only [World.size_alloc] at hu0 hu1 HP8 HIO8 HD
      clear HBX hbx hpv hbel hsz hcell hgb b6 x6 hp6 hb6 hx6 hs6 io7 hio8 b8
      go_wp2_with fail
      generalize (wr.alloc (Obj.cells #[.int .i64 v.f, .int .i64 v.t, .int .i64 v.lo, .int .i64 v.hi, .int .i64 v.wo] 48)).alloc (Obj.cells ((intV (List.replicate V.length 0)).set k (.int .i64 1)).toArray 3) = Wz at *
      clear hu0 hu1 HMK hc0 hc1 hc2 hc3 hc4
      generalize unitR V.length k = LU at *
      generalize wr.heap.size = vb at *
      have HS := hid (fun (Y : World) (b1 : Y.heap[pb]? = some (.cells #[rv, ev, bv, cv] 32 (0, 0))) (b2 : Y.heap[vb]? = some (.cells #[.int .i64 v.f, .int .i64 v.t, .int .i64 v.lo, .int .i64 v.hi, .int .i64 v.wo] 48 (0, 0))) => show (Y.cell? ⟨pb, 0, none⟩ = some rv ∧ Y.cell? ⟨pb, 1, none⟩ = some ev ∧ Y.cell? ⟨pb, 2, none⟩ = some bv ∧ Y.cell? ⟨vb, 3, none⟩ = some (.int .i64 v.hi) ∧ Y.cell? ⟨vb, 2, none⟩ = some (.int .i64 v.lo)) from ⟨ibx b1 0 _ rfl, ibx b1 1 _ rfl, ibx b1 2 _ rfl, ibx b2 3 _ rfl, ibx b2 2 _ rfl⟩)
      have hP0 := HP8.out.drew
      have io0 := HIO8.out.drewK
      clear HP8 HIO8
      refine wp_region_noPanic ?_
      refine region_split (S := fun Y => Y.cell? ⟨pb, 0, none⟩ = some rv ∧ Y.cell? ⟨pb, 1, none⟩ = some ev ∧ Y.cell? ⟨pb, 2, none⟩ = some bv ∧ Y.cell? ⟨vb, 3, none⟩ = some (.int .i64 v.hi) ∧ Y.cell? ⟨vb, 2, none⟩ = some (.int .i64 v.lo)) (late := fun j => Nat.ble 19 j) (k := 4) (m := 5) (last := #[true, true, true, true, true, true, true, true, true, true, true, true, true, true, true, true, true, true, true, false, false, false, false, false]) (mask := #[false, false, false, false, false, false, false, false, false, false, false, false, false, false, false, false, false, false, false, true, true, true, true, true]) (by kernel_rfl) (by kernel_rfl) (by kernel_rfl) (by kernel_rfl) 19 (by kernel_rfl) (HS.out _ hP0.box hP0.vbx) (fun hHeld => ?_)
      generalize Wz.drew = R0 at *
      refine wpAnyH_take (i := 0) (v := ?_) rfl (by kernel_rfl) (by kernel_rfl) (by kernel_rfl) (fun _ _ _ h => h) (Or.inl ⟨by rfl, ?_⟩) (by assumption) ?_
      rotate_left
      · intro w hSw
        (try dsimp only at hSw)
        go_simp
        (try with_reducible rfl)
      (try simp only [List.getElem_toArray, List.getElem_cons_zero, List.getElem_cons_succ, Act.put, List.setIfInBounds_toArray, List.set_cons_zero, List.set_cons_succ])
      refine wpAnyH_take (i := 1) (v := ?_) rfl (by kernel_rfl) (by kernel_rfl) (by kernel_rfl) (fun _ _ _ h => h) (Or.inl ⟨by rfl, ?_⟩) (by assumption) ?_
      rotate_left
      · intro w hSw
        (try dsimp only at hSw)
        go_simp
        (try with_reducible rfl)
      (try simp only [List.getElem_toArray, List.getElem_cons_zero, List.getElem_cons_succ, Act.put, List.setIfInBounds_toArray, List.set_cons_zero, List.set_cons_succ])
      refine wpAnyH_take (i := 2) (v := ?_) rfl (by kernel_rfl) (by kernel_rfl) (by kernel_rfl) (fun _ _ _ h => h) (Or.inl ⟨by rfl, ?_⟩) (by assumption) ?_
      rotate_left
      · intro w hSw
        (try dsimp only at hSw)
        go_simp
        (try with_reducible rfl)
      (try simp only [List.getElem_toArray, List.getElem_cons_zero, List.getElem_cons_succ, Act.put, List.setIfInBounds_toArray, List.set_cons_zero, List.set_cons_succ])
      refine wpAnyH_take (i := 5) (v := ?_) rfl (by kernel_rfl) (by kernel_rfl) (by kernel_rfl) (fun _ _ _ h => h) (Or.inl ⟨by rfl, ?_⟩) (by assumption) ?_
      rotate_left
      · intro w hSw
        (try dsimp only at hSw)
        go_simp
        (try with_reducible rfl)
      (try simp only [List.getElem_toArray, List.getElem_cons_zero, List.getElem_cons_succ, Act.put, List.setIfInBounds_toArray, List.set_cons_zero, List.set_cons_succ])
      refine wpAnyH_take (i := 6) (v := ?_) rfl (by kernel_rfl) (by kernel_rfl) (by kernel_rfl) (fun _ _ _ h => h) (Or.inl ⟨by rfl, ?_⟩) (by assumption) ?_
      rotate_left
      · intro w hSw
        (try dsimp only at hSw)
        go_simp
        (try with_reducible rfl)
      (try simp only [List.getElem_toArray, List.getElem_cons_zero, List.getElem_cons_succ, Act.put, List.setIfInBounds_toArray, List.set_cons_zero, List.set_cons_succ])
      refine wpAnyH_take (i := 9) (v := ?_) rfl (by kernel_rfl) (by kernel_rfl) (by kernel_rfl) (fun _ _ _ h => h) (Or.inl ⟨by rfl, ?_⟩) (by assumption) ?_
      rotate_left
      · intro w hSw
        (try dsimp only at hSw)
        go_simp
        (try with_reducible rfl)
      (try simp only [List.getElem_toArray, List.getElem_cons_zero, List.getElem_cons_succ, Act.put, List.setIfInBounds_toArray, List.set_cons_zero, List.set_cons_succ])
      refine wpAnyH_take (i := 10) (v := ?_) rfl (by kernel_rfl) (by kernel_rfl) (by kernel_rfl) (fun _ _ _ h => h) (Or.inl ⟨by rfl, ?_⟩) (by assumption) ?_
      rotate_left
      · intro w hSw
        (try dsimp only at hSw)
        go_simp
        (try with_reducible rfl)
      (try simp only [List.getElem_toArray, List.getElem_cons_zero, List.getElem_cons_succ, Act.put, List.setIfInBounds_toArray, List.set_cons_zero, List.set_cons_succ])
      refine wpAnyH_take (i := 11) (v := ?_) rfl (by kernel_rfl) (by kernel_rfl) (by kernel_rfl) (fun _ _ _ h => h) (Or.inl ⟨by rfl, ?_⟩) (by assumption) ?_
      rotate_left
      · intro w hSw
        (try dsimp only at hSw)
        go_simp
        (try with_reducible rfl)
      (try simp only [List.getElem_toArray, List.getElem_cons_zero, List.getElem_cons_succ, Act.put, List.setIfInBounds_toArray, List.set_cons_zero, List.set_cons_succ])
      refine wpAnyH_take (i := 12) (v := ?_) rfl (by kernel_rfl) (by kernel_rfl) (by kernel_rfl) (fun _ _ _ h => h) (Or.inl ⟨by rfl, ?_⟩) (by assumption) ?_
      rotate_left
      · intro w hSw
        (try dsimp only at hSw)
        go_simp
        (try with_reducible rfl)
      (try simp only [List.getElem_toArray, List.getElem_cons_zero, List.getElem_cons_succ, Act.put, List.setIfInBounds_toArray, List.set_cons_zero, List.set_cons_succ])
      refine wpAnyH_take (i := 13) (v := ?_) rfl (by kernel_rfl) (by kernel_rfl) (by kernel_rfl) (fun _ _ _ h => h) (Or.inl ⟨by rfl, ?_⟩) (by assumption) ?_
      rotate_left
      · intro w hSw
        (try dsimp only at hSw)
        go_simp
        (try with_reducible rfl)
      (try simp only [List.getElem_toArray, List.getElem_cons_zero, List.getElem_cons_succ, Act.put, List.setIfInBounds_toArray, List.set_cons_zero, List.set_cons_succ])
      refine wpAnyH_take (i := 14) (v := ?_) rfl (by kernel_rfl) (by kernel_rfl) (by kernel_rfl) (fun _ _ _ h => h) (Or.inl ⟨by rfl, ?_⟩) (by assumption) ?_
      rotate_left
      · intro w hSw
        (try dsimp only at hSw)
        go_simp
        (try with_reducible rfl)
      (try simp only [List.getElem_toArray, List.getElem_cons_zero, List.getElem_cons_succ, Act.put, List.setIfInBounds_toArray, List.set_cons_zero, List.set_cons_succ])
      refine wpAnyH_take (i := 15) (v := ?_) rfl (by kernel_rfl) (by kernel_rfl) (by kernel_rfl) (fun _ _ _ h => h) (Or.inl ⟨by rfl, ?_⟩) (by assumption) ?_
      rotate_left
      · intro w hSw
        (try dsimp only at hSw)
        go_simp
        (try with_reducible rfl)
      (try simp only [List.getElem_toArray, List.getElem_cons_zero, List.getElem_cons_succ, Act.put, List.setIfInBounds_toArray, List.set_cons_zero, List.set_cons_succ])
      refine wpAnyH_ready (rs := [3, 7, 16]) (by kernel_rfl) (by simp) ?_
      refine AllReadyH.cons (o := _) rfl (fun Kc hKc => ?_) (AllReadyH.cons (o := _) rfl (fun Kc hKc => ?_) (AllReadyH.cons (o := _) rfl (fun Kc hKc => ?_) (AllReadyH.nil)))
      · go_simp
        refine hKc.out _ _ (HS.out _ (hP0.alloc _).box (hP0.alloc _).vbx) (fun hHeld => ?_)
        clear hKc Kc
        (try simp only [List.getElem_toArray, List.getElem_cons_zero, List.getElem_cons_succ, Act.put, List.setIfInBounds_toArray, List.set_cons_zero, List.set_cons_succ])
        have hP1 := hP0.alloc (Obj.cells #[(Value.slice (some ⟨vb + 1, 0, none⟩) V.length V.length)] 26)
        have p0_1 := Pd.new hP0 26 ((Value.slice (some ⟨vb + 1, 0, none⟩) V.length V.length))
        have io1 : IO (R0.alloc (Obj.cells #[(Value.slice (some ⟨vb + 1, 0, none⟩) V.length V.length)] 26)) pb (Value.slice (some ⟨vb + 1, 0, none⟩) V.length V.length) LU := World.ownsRow.alloc io0 _
        clear io0
        clear hP0
        generalize R0.alloc (Obj.cells #[(Value.slice (some ⟨vb + 1, 0, none⟩) V.length V.length)] 26) = R1 at *
        generalize R0.heap.size = g0 at *
        refine wpAnyH_ready (rs := [4, 7, 16]) (by kernel_rfl) (by simp) ?_
        refine AllReadyH.cons (o := _) rfl (fun Kc hKc => ?_) (AllReadyH.cons (o := _) rfl (fun Kc hKc => ?_) (AllReadyH.cons (o := _) rfl (fun Kc hKc => ?_) (AllReadyH.nil)))
        · refine step_append_at rfl _ _ 30 rfl pb 26 j0 (.slice none 0 0) 1 24 Try.underlying30 hj0 jz0 jz1 jz2 rfl (by decide) rv P.rows.length vs rfl hP1.pv.rows ⟨g0, 0, none⟩ 1 1 [(Value.slice (some ⟨vb + 1, 0, none⟩) V.length V.length)] rfl rfl p0_1.news (by intro u hu; simp at hu; subst hu; rfl) (by unfold maxLen; omega) (by omega) hP1.sz ?_
          intro v0 R2 o0 hg0 hat0
          obtain ⟨qa0, qc0, rfl⟩ := kown_form o0
          have hP2 := hP1.pr (by decide) (by decide) (L := LU) io1 HD.out.1 HD.out.2.1 HD.out.2.2 o0 hg0
          clear io1
          clear p0_1 o0 hg0 hat0 hP1
          refine hKc.out _ _ (HS.out _ hP2.box hP2.vbx) (fun hHeld => ?_)
          clear hKc Kc
          (try simp only [List.getElem_toArray, List.getElem_cons_zero, List.getElem_cons_succ, Act.put, List.setIfInBounds_toArray, List.set_cons_zero, List.set_cons_succ])
          refine wpAnyH_take (i := 18) (v := ?_) rfl (by kernel_rfl) (by kernel_rfl) (by kernel_rfl) (fun _ _ _ h => h) (Or.inl ⟨by rfl, ?_⟩) (by assumption) ?_
          rotate_left
          · intro w hSw
            (try dsimp only at hSw)
            go_simp
            (try with_reducible rfl)
          (try simp only [List.getElem_toArray, List.getElem_cons_zero, List.getElem_cons_succ, Act.put, List.setIfInBounds_toArray, List.set_cons_zero, List.set_cons_succ])
          refine wpAnyH_ready (rs := [7, 16]) (by kernel_rfl) (by simp) ?_
          refine AllReadyH.cons (o := _) rfl (fun Kc hKc => ?_) (AllReadyH.cons (o := _) rfl (fun Kc hKc => ?_) (AllReadyH.nil))
          · go_simp
            refine hKc.out _ _ (HS.out _ (hP2.alloc _).box (hP2.alloc _).vbx) (fun hHeld => ?_)
            clear hKc Kc
            (try simp only [List.getElem_toArray, List.getElem_cons_zero, List.getElem_cons_succ, Act.put, List.setIfInBounds_toArray, List.set_cons_zero, List.set_cons_succ])
            have hP3 := hP2.alloc (Obj.cells #[.int .i64 (-1)] 3)
            have p1_3 := Pd.new hP2 3 (.int .i64 (-1))
            clear hP2
            generalize R2.alloc (Obj.cells #[.int .i64 (-1)] 3) = R3 at *
            generalize R2.heap.size = g1 at *
            refine wpAnyH_ready (rs := [8, 16]) (by kernel_rfl) (by simp) ?_
            refine AllReadyH.cons (o := _) rfl (fun Kc hKc => ?_) (AllReadyH.cons (o := _) rfl (fun Kc hKc => ?_) (AllReadyH.nil))
            · refine step_append_at rfl _ _ 26 rfl pb 3 i0 (.int .i64 0) 1 8 Try.underlying26 hi0 iz0 iz1 iz2 rfl (by decide) ev P.rel.length (intV P.rel) rfl hP3.pv.rel ⟨g1, 0, none⟩ 1 1 [.int .i64 (-1)] rfl rfl p1_3.news (by intro u hu; simp at hu; subst hu; rfl) (by unfold maxLen; omega) (by omega) hP3.sz ?_
              intro v1 R4 o1 hg1 hat1
              obtain ⟨qa1, qc1, rfl⟩ := kown_form o1
              have hP4 := hP3.pe (by decide) (by decide) o1 hg1 hat1
              clear p1_3 o1 hg1 hat1 hP3
              refine hKc.out _ _ (HS.out _ hP4.box hP4.vbx) (fun hHeld => ?_)
              clear hKc Kc
              (try simp only [List.getElem_toArray, List.getElem_cons_zero, List.getElem_cons_succ, Act.put, List.setIfInBounds_toArray, List.set_cons_zero, List.set_cons_succ])
              refine wpAnyH_ready (rs := [16]) (by kernel_rfl) (by simp) ?_
              refine AllReadyH.cons (o := _) rfl (fun Kc hKc => ?_) (AllReadyH.nil)
              · go_simp
                refine hKc.out _ _ (HS.out _ (hP4.alloc _).box (hP4.alloc _).vbx) (fun hHeld => ?_)
                clear hKc Kc
                (try simp only [List.getElem_toArray, List.getElem_cons_zero, List.getElem_cons_succ, Act.put, List.setIfInBounds_toArray, List.set_cons_zero, List.set_cons_succ])
                have hP5 := hP4.alloc (Obj.cells #[.int .i64 (v.hi - v.lo)] 3)
                have p2_5 := Pd.new hP4 3 (.int .i64 (v.hi - v.lo))
                clear hP4
                generalize R4.alloc (Obj.cells #[.int .i64 (v.hi - v.lo)] 3) = R5 at *
                generalize R4.heap.size = g2 at *
                refine wpAnyH_ready (rs := [17]) (by kernel_rfl) (by simp) ?_
                refine AllReadyH.cons (o := _) rfl (fun Kc hKc => ?_) (AllReadyH.nil)
                · refine step_append_at rfl _ _ 26 rfl pb 3 i0 (.int .i64 0) 1 8 Try.underlying26 hi0 iz0 iz1 iz2 rfl (by decide) bv P.b.length (intV P.b) rfl hP5.pv.b ⟨g2, 0, none⟩ 1 1 [.int .i64 (v.hi - v.lo)] rfl rfl p2_5.news (by intro u hu; simp at hu; subst hu; rfl) (by unfold maxLen; omega) (by omega) hP5.sz ?_
                  intro v2 R6 o2 hg2 hat2
                  obtain ⟨qa2, qc2, rfl⟩ := kown_form o2
                  have hP6 := hP5.pb_ (by decide) (by decide) o2 hg2 hat2
                  clear p2_5 o2 hg2 hat2 hP5
                  refine hKc.out _ _ (HS.out _ hP6.box hP6.vbx) (fun hHeld => ?_)
                  clear hKc Kc
                  (try simp only [List.getElem_toArray, List.getElem_cons_zero, List.getElem_cons_succ, Act.put, List.setIfInBounds_toArray, List.set_cons_zero, List.set_cons_succ])
                  refine wpAnyH_done (by kernel_rfl) ?_ _
                  intro r
                  have b6 := hP6.box
                  have b7 : (R6.setCell ⟨pb, 0, none⟩ (.slice qa0 (P.rows.length + 1) qc0)).heap[pb]? = some (.cells #[.slice qa0 (P.rows.length + 1) qc0, ev, bv, cv] 32 (0, 0)) := by simpa using set_at (L := [rv, ev, bv, cv]) (k := 0) (v := .slice qa0 (P.rows.length + 1) qc0) b6
                  have b8 : ((R6.setCell ⟨pb, 0, none⟩ (.slice qa0 (P.rows.length + 1) qc0)).setCell ⟨pb, 1, none⟩ (.slice qa1 (P.rel.length + 1) qc1)).heap[pb]? = some (.cells #[.slice qa0 (P.rows.length + 1) qc0, .slice qa1 (P.rel.length + 1) qc1, bv, cv] 32 (0, 0)) := by simpa using set_at (L := [.slice qa0 (P.rows.length + 1) qc0, ev, bv, cv]) (k := 1) (v := .slice qa1 (P.rel.length + 1) qc1) b7
                  have b9 : (((R6.setCell ⟨pb, 0, none⟩ (.slice qa0 (P.rows.length + 1) qc0)).setCell ⟨pb, 1, none⟩ (.slice qa1 (P.rel.length + 1) qc1)).setCell ⟨pb, 2, none⟩ (.slice qa2 (P.b.length + 1) qc2)).heap[pb]? = some (.cells #[.slice qa0 (P.rows.length + 1) qc0, .slice qa1 (P.rel.length + 1) qc1, .slice qa2 (P.b.length + 1) qc2, cv] 32 (0, 0)) := by simpa using set_at (L := [.slice qa0 (P.rows.length + 1) qc0, .slice qa1 (P.rel.length + 1) qc1, bv, cv]) (k := 2) (v := .slice qa2 (P.b.length + 1) qc2) b8
                  have c60 := ibx b6 0 rv rfl
                  have f60 := free_at (L := [rv, ev, bv, cv]) b6 0
                  have c61 := ibx b6 1 ev rfl
                  have f61 := free_at (L := [rv, ev, bv, cv]) b6 1
                  have c62 := ibx b6 2 bv rfl
                  have f62 := free_at (L := [rv, ev, bv, cv]) b6 2
                  have h9 := ((hP6.pv.set (i := 0) b6 (by decide) (by decide) (.slice qa0 (P.rows.length + 1) qc0)).set (i := 1) b7 (by decide) (by decide) (.slice qa1 (P.rel.length + 1) qc1)).set (i := 2) b8 (by decide) (by decide) (.slice qa2 (P.b.length + 1) qc2)
                  have B9 : Below pb W5 (((R6.setCell ⟨pb, 0, none⟩ (.slice qa0 (P.rows.length + 1) qc0)).setCell ⟨pb, 1, none⟩ (.slice qa1 (P.rel.length + 1) qc1)).setCell ⟨pb, 2, none⟩ (.slice qa2 (P.b.length + 1) qc2)) := ((hP6.bel.setCell (p := ⟨pb, 0, none⟩) (Nat.le_refl _) _).setCell (p := ⟨pb, 1, none⟩) (Nat.le_refl _) _).setCell (p := ⟨pb, 2, none⟩) (Nat.le_refl _) _
                  have x9 : (((R6.setCell ⟨pb, 0, none⟩ (.slice qa0 (P.rows.length + 1) qc0)).setCell ⟨pb, 1, none⟩ (.slice qa1 (P.rel.length + 1) qc1)).setCell ⟨pb, 2, none⟩ (.slice qa2 (P.b.length + 1) qc2)).heap[vb]? = some (.cells #[.int .i64 v.f, .int .i64 v.t, .int .i64 v.lo, .int .i64 v.hi, .int .i64 v.wo] 48 (0, 0)) := by
                    rw [Below.heap_setCell _ _ _ _ HVP.out, Below.heap_setCell _ _ _ _ HVP.out, Below.heap_setCell _ _ _ _ HVP.out]
                    exact hP6.vbx
                  have s9 : pb ≤ (((R6.setCell ⟨pb, 0, none⟩ (.slice qa0 (P.rows.length + 1) qc0)).setCell ⟨pb, 1, none⟩ (.slice qa1 (P.rel.length + 1) qc1)).setCell ⟨pb, 2, none⟩ (.slice qa2 (P.b.length + 1) qc2)).heap.size := by simpa [World.setCell] using hP6.sz
                  clear hP6 b6 b7 b8 hHeld
                  refine wpAny_ready (rs := [19]) (by kernel_rfl) (by simp) ?_
                  refine AllReady.cons (o := _) rfl (fun Kc hKc => ?_) AllReady.nil
                  go_simp
                  refine hKc _ _ ?_
                  clear hKc Kc
                  (try simp only [List.getElem_toArray, List.getElem_cons_zero, List.getElem_cons_succ, Act.put, List.setIfInBounds_toArray, List.set_cons_zero, List.set_cons_succ])
                  refine wpAny_ready (rs := [20]) (by kernel_rfl) (by simp) ?_
                  refine AllReady.cons (o := _) rfl (fun Kc hKc => ?_) AllReady.nil
                  go_simp
                  refine hKc _ _ ?_
                  clear hKc Kc
                  (try simp only [List.getElem_toArray, List.getElem_cons_zero, List.getElem_cons_succ, Act.put, List.setIfInBounds_toArray, List.set_cons_zero, List.set_cons_succ])
                  refine wpAny_ready (rs := [21]) (by kernel_rfl) (by simp) ?_
                  refine AllReady.cons (o := _) rfl (fun Kc hKc => ?_) AllReady.nil
                  go_simp
                  refine hKc _ _ ?_
                  clear hKc Kc
                  (try simp only [List.getElem_toArray, List.getElem_cons_zero, List.getElem_cons_succ, Act.put, List.setIfInBounds_toArray, List.set_cons_zero, List.set_cons_succ])
                  refine wpAny_ready (rs := [22]) (by kernel_rfl) (by simp) ?_
                  refine AllReady.cons (o := _) rfl (fun Kc hKc => ?_) AllReady.nil
                  go_simp
                  refine hKc _ _ ?_
                  clear hKc Kc
                  (try simp only [List.getElem_toArray, List.getElem_cons_zero, List.getElem_cons_succ, Act.put, List.setIfInBounds_toArray, List.set_cons_zero, List.set_cons_succ])
                  refine wpAny_ready (rs := [23]) (by kernel_rfl) (by simp) ?_
                  refine AllReady.cons (o := _) rfl (fun Kc hKc => ?_) AllReady.nil
                  go_simp
                  refine hKc _ _ ?_
                  clear hKc Kc
                  (try simp only [List.getElem_toArray, List.getElem_cons_zero, List.getElem_cons_succ, Act.put, List.setIfInBounds_toArray, List.set_cons_zero, List.set_cons_succ])
                  refine wpAny_done (by kernel_rfl) ?_ _
                  refine NoPanic.normal ?_
                  clear c60 f60 c61 f61 c62 f62
                  generalize ((R6.setCell ⟨pb, 0, none⟩ (.slice qa0 (P.rows.length + 1) qc0)).setCell ⟨pb, 1, none⟩ (.slice qa1 (P.rel.length + 1) qc1)).setCell ⟨pb, 2, none⟩ (.slice qa2 (P.b.length + 1) qc2) = W9 at *
                  have hP9 : P3 32 48 W5 W9 pb vb _ _ _ _ _ _ _ _ := ⟨h9, b9, x9, B9, s9⟩
                  have hPA := hP9.alloc (Obj.cells #[.int .i64 v.wo] 3)
                  have q9 := Pd.new hP9 3 (.int .i64 v.wo)
                  have y3 := ibx b9 3 cv rfl
                  have y4 := ibx x9 4 (.int .i64 v.wo) rfl
                  clear h9 b9 x9 B9 s9 hP9
                  have HPA := hid hPA
                  have HQ9 := hid q9
                  have hownc : (W9.alloc (Obj.cells #[.int .i64 v.wo] 3)).ownsRow pb 3 1 cv P.c.length (intV P.c) := hPA.pv.c
                  clear hPA q9
                  go_wp2_with (first | (at_builtin; refine wpList_append_own_at _ rfl _ _ 26 rfl pb 3 i0 (.int .i64 0) 1 8 Try.underlying26 hi0 iz0 iz1 iz2 rfl (by decide) cv P.c.length (intV P.c) rfl hownc ⟨W9.heap.size, 0, none⟩ 1 1 [.int .i64 v.wo] rfl rfl HQ9.out.news (by intro u hu; simp at hu; subst hu; rfl) (by unfold maxLen; omega) (by omega) HPA.out.sz ?_) | fail)
                  intro vc WC oc hgc _ hatc
                  obtain ⟨qac, qcc, rfl⟩ := kown_form oc
                  have hpc := HPA.out.pv.push_c oc hgc (by rw [World.size_alloc]; exact hatc)
                  obtain ⟨bc1, bc2, bc3, bc4⟩ := HPA.out.kept hownc hgc (by decide) (by decide)
                  have w3 := ibx bc1 3 cv rfl
                  have w3f := free_at (L := [_, _, _, _]) bc1 3
                  have bcs := set_at (L := [_, _, _, _]) (k := 3) (v := .slice qac (P.c.length + 1) qcc) bc1
                  have hps := hpc.set (i := 3) bc1 (by decide) (by decide) (.slice qac (P.c.length + 1) qcc)
                  have bbs := bc3.setCell (p := ⟨pb, 3, none⟩) (Nat.le_refl _) (.slice qac (P.c.length + 1) qcc)
                  have HBX : Hid (Bx (WC.setCell ⟨pb, 3, none⟩ (.slice qac (P.c.length + 1) qcc)) W5 pb (P1 V (k + 1))) := hid ⟨_, _, _, _, _, by simpa using bcs, by rw [HPS.out]; exact hps, bbs, by simpa [World.setCell] using bc4⟩
                  clear oc hgc hatc hpc bc1 bc2 bc3 bc4 bcs hps bbs hownc HPA HQ9
                  go_wp2_with fail
                  go_roundw
                  case rel => exact ⟨k + 1, by omega, by go_num, HBX⟩
                  case measure => simp [intOf]; omega
            · go_simp
              refine hKc.out _ _ (HS.out _ (hP3.alloc _).box (hP3.alloc _).vbx) (fun hHeld => ?_)
              clear hKc Kc
              (try simp only [List.getElem_toArray, List.getElem_cons_zero, List.getElem_cons_succ, Act.put, List.setIfInBounds_toArray, List.set_cons_zero, List.set_cons_succ])
              have hP4 := hP3.alloc (Obj.cells #[.int .i64 (v.hi - v.lo)] 3)
              have p2_4 := Pd.new hP3 3 (.int .i64 (v.hi - v.lo))
              have p1_4 := p1_3.alloc (Obj.cells #[.int .i64 (v.hi - v.lo)] 3)
              clear p1_3
              clear hP3
              generalize R3.alloc (Obj.cells #[.int .i64 (v.hi - v.lo)] 3) = R4 at *
              generalize R3.heap.size = g2 at *
              refine wpAnyH_ready (rs := [8]) (by kernel_rfl) (by simp) ?_
              refine AllReadyH.cons (o := _) rfl (fun Kc hKc => ?_) (AllReadyH.nil)
              · refine step_append_at rfl _ _ 26 rfl pb 3 i0 (.int .i64 0) 1 8 Try.underlying26 hi0 iz0 iz1 iz2 rfl (by decide) ev P.rel.length (intV P.rel) rfl hP4.pv.rel ⟨g1, 0, none⟩ 1 1 [.int .i64 (-1)] rfl rfl p1_4.news (by intro u hu; simp at hu; subst hu; rfl) (by unfold maxLen; omega) (by omega) hP4.sz ?_
                intro v1 R5 o1 hg1 hat1
                obtain ⟨qa1, qc1, rfl⟩ := kown_form o1
                have hP5 := hP4.pe (by decide) (by decide) o1 hg1 hat1
                have p2_5 := p2_4.ge hg1 hat1
                clear p2_4
                clear p1_4 o1 hg1 hat1 hP4
                refine hKc.out _ _ (HS.out _ hP5.box hP5.vbx) (fun hHeld => ?_)
                clear hKc Kc
                (try simp only [List.getElem_toArray, List.getElem_cons_zero, List.getElem_cons_succ, Act.put, List.setIfInBounds_toArray, List.set_cons_zero, List.set_cons_succ])
                refine wpAnyH_ready (rs := [17]) (by kernel_rfl) (by simp) ?_
                refine AllReadyH.cons (o := _) rfl (fun Kc hKc => ?_) (AllReadyH.nil)
                · refine step_append_at rfl _ _ 26 rfl pb 3 i0 (.int .i64 0) 1 8 Try.underlying26 hi0 iz0 iz1 iz2 rfl (by decide) bv P.b.length (intV P.b) rfl hP5.pv.b ⟨g2, 0, none⟩ 1 1 [.int .i64 (v.hi - v.lo)] rfl rfl p2_5.news (by intro u hu; simp at hu; subst hu; rfl) (by unfold maxLen; omega) (by omega) hP5.sz ?_
                  intro v2 R6 o2 hg2 hat2
                  obtain ⟨qa2, qc2, rfl⟩ := kown_form o2
                  have hP6 := hP5.pb_ (by decide) (by decide) o2 hg2 hat2
                  clear p2_5 o2 hg2 hat2 hP5
                  refine hKc.out _ _ (HS.out _ hP6.box hP6.vbx) (fun hHeld => ?_)
                  clear hKc Kc
                  (try simp only [List.getElem_toArray, List.getElem_cons_zero, List.getElem_cons_succ, Act.put, List.setIfInBounds_toArray, List.set_cons_zero, List.set_cons_succ])
                  refine wpAnyH_done (by kernel_rfl) ?_ _
                  intro r
                  have b6 := hP6.box
                  have b7 : (R6.setCell ⟨pb, 0, none⟩ (.slice qa0 (P.rows.length + 1) qc0)).heap[pb]? = some (.cells #[.slice qa0 (P.rows.length + 1) qc0, ev, bv, cv] 32 (0, 0)) := by simpa using set_at (L := [rv, ev, bv, cv]) (k := 0) (v := .slice qa0 (P.rows.length + 1) qc0) b6
                  have b8 : ((R6.setCell ⟨pb, 0, none⟩ (.slice qa0 (P.rows.length + 1) qc0)).setCell ⟨pb, 1, none⟩ (.slice qa1 (P.rel.length + 1) qc1)).heap[pb]? = some (.cells #[.slice qa0 (P.rows.length + 1) qc0, .slice qa1 (P.rel.length + 1) qc1, bv, cv] 32 (0, 0)) := by simpa using set_at (L := [.slice qa0 (P.rows.length + 1) qc0, ev, bv, cv]) (k := 1) (v := .slice qa1 (P.rel.length + 1) qc1) b7
                  have b9 : (((R6.setCell ⟨pb, 0, none⟩ (.slice qa0 (P.rows.length + 1) qc0)).setCell ⟨pb, 1, none⟩ (.slice qa1 (P.rel.length + 1) qc1)).setCell ⟨pb, 2, none⟩ (.slice qa2 (P.b.length + 1) qc2)).heap[pb]? = some (.cells #[.slice qa0 (P.rows.length + 1) qc0, .slice qa1 (P.rel.length + 1) qc1, .slice qa2 (P.b.length + 1) qc2, cv] 32 (0, 0)) := by simpa using set_at (L := [.slice qa0 (P.rows.length + 1) qc0, .slice qa1 (P.rel.length + 1) qc1, bv, cv]) (k := 2) (v := .slice qa2 (P.b.length + 1) qc2) b8
                  have c60 := ibx b6 0 rv rfl
                  have f60 := free_at (L := [rv, ev, bv, cv]) b6 0
                  have c61 := ibx b6 1 ev rfl
                  have f61 := free_at (L := [rv, ev, bv, cv]) b6 1
                  have c62 := ibx b6 2 bv rfl
                  have f62 := free_at (L := [rv, ev, bv, cv]) b6 2
                  have h9 := ((hP6.pv.set (i := 0) b6 (by decide) (by decide) (.slice qa0 (P.rows.length + 1) qc0)).set (i := 1) b7 (by decide) (by decide) (.slice qa1 (P.rel.length + 1) qc1)).set (i := 2) b8 (by decide) (by decide) (.slice qa2 (P.b.length + 1) qc2)
                  have B9 : Below pb W5 (((R6.setCell ⟨pb, 0, none⟩ (.slice qa0 (P.rows.length + 1) qc0)).setCell ⟨pb, 1, none⟩ (.slice qa1 (P.rel.length + 1) qc1)).setCell ⟨pb, 2, none⟩ (.slice qa2 (P.b.length + 1) qc2)) := ((hP6.bel.setCell (p := ⟨pb, 0, none⟩) (Nat.le_refl _) _).setCell (p := ⟨pb, 1, none⟩) (Nat.le_refl _) _).setCell (p := ⟨pb, 2, none⟩) (Nat.le_refl _) _
                  have x9 : (((R6.setCell ⟨pb, 0, none⟩ (.slice qa0 (P.rows.length + 1) qc0)).setCell ⟨pb, 1, none⟩ (.slice qa1 (P.rel.length + 1) qc1)).setCell ⟨pb, 2, none⟩ (.slice qa2 (P.b.length + 1) qc2)).heap[vb]? = some (.cells #[.int .i64 v.f, .int .i64 v.t, .int .i64 v.lo, .int .i64 v.hi, .int .i64 v.wo] 48 (0, 0)) := by
                    rw [Below.heap_setCell _ _ _ _ HVP.out, Below.heap_setCell _ _ _ _ HVP.out, Below.heap_setCell _ _ _ _ HVP.out]
                    exact hP6.vbx
                  have s9 : pb ≤ (((R6.setCell ⟨pb, 0, none⟩ (.slice qa0 (P.rows.length + 1) qc0)).setCell ⟨pb, 1, none⟩ (.slice qa1 (P.rel.length + 1) qc1)).setCell ⟨pb, 2, none⟩ (.slice qa2 (P.b.length + 1) qc2)).heap.size := by simpa [World.setCell] using hP6.sz
                  clear hP6 b6 b7 b8 hHeld
                  refine wpAny_ready (rs := [19]) (by kernel_rfl) (by simp) ?_
                  refine AllReady.cons (o := _) rfl (fun Kc hKc => ?_) AllReady.nil
                  go_simp
                  refine hKc _ _ ?_
                  clear hKc Kc
                  (try simp only [List.getElem_toArray, List.getElem_cons_zero, List.getElem_cons_succ, Act.put, List.setIfInBounds_toArray, List.set_cons_zero, List.set_cons_succ])
                  refine wpAny_ready (rs := [20]) (by kernel_rfl) (by simp) ?_
                  refine AllReady.cons (o := _) rfl (fun Kc hKc => ?_) AllReady.nil
                  go_simp
                  refine hKc _ _ ?_
                  clear hKc Kc
                  (try simp only [List.getElem_toArray, List.getElem_cons_zero, List.getElem_cons_succ, Act.put, List.setIfInBounds_toArray, List.set_cons_zero, List.set_cons_succ])
                  refine wpAny_ready (rs := [21]) (by kernel_rfl) (by simp) ?_
                  refine AllReady.cons (o := _) rfl (fun Kc hKc => ?_) AllReady.nil
                  go_simp
                  refine hKc _ _ ?_
                  clear hKc Kc
                  (try simp only [List.getElem_toArray, List.getElem_cons_zero, List.getElem_cons_succ, Act.put, List.setIfInBounds_toArray, List.set_cons_zero, List.set_cons_succ])
                  refine wpAny_ready (rs := [22]) (by kernel_rfl) (by simp) ?_
                  refine AllReady.cons (o := _) rfl (fun Kc hKc => ?_) AllReady.nil
                  go_simp
                  refine hKc _ _ ?_
                  clear hKc Kc
                  (try simp only [List.getElem_toArray, List.getElem_cons_zero, List.getElem_cons_succ, Act.put, List.setIfInBounds_toArray, List.set_cons_zero, List.set_cons_succ])
                  refine wpAny_ready (rs := [23]) (by kernel_rfl) (by simp) ?_
                  refine AllReady.cons (o := _) rfl (fun Kc hKc => ?_) AllReady.nil
                  go_simp
                  refine hKc _ _ ?_
                  clear hKc Kc
                  (try simp only [List.getElem_toArray, List.getElem_cons_zero, List.getElem_cons_succ, Act.put, List.setIfInBounds_toArray, List.set_cons_zero, List.set_cons_succ])
                  refine wpAny_done (by kernel_rfl) ?_ _
                  refine NoPanic.normal ?_
                  clear c60 f60 c61 f61 c62 f62
                  generalize ((R6.setCell ⟨pb, 0, none⟩ (.slice qa0 (P.rows.length + 1) qc0)).setCell ⟨pb, 1, none⟩ (.slice qa1 (P.rel.length + 1) qc1)).setCell ⟨pb, 2, none⟩ (.slice qa2 (P.b.length + 1) qc2) = W9 at *
                  have hP9 : P3 32 48 W5 W9 pb vb _ _ _ _ _ _ _ _ := ⟨h9, b9, x9, B9, s9⟩
                  have hPA := hP9.alloc (Obj.cells #[.int .i64 v.wo] 3)
                  have q9 := Pd.new hP9 3 (.int .i64 v.wo)
                  have y3 := ibx b9 3 cv rfl
                  have y4 := ibx x9 4 (.int .i64 v.wo) rfl
                  clear h9 b9 x9 B9 s9 hP9
                  have HPA := hid hPA
                  have HQ9 := hid q9
                  have hownc : (W9.alloc (Obj.cells #[.int .i64 v.wo] 3)).ownsRow pb 3 1 cv P.c.length (intV P.c) := hPA.pv.c
                  clear hPA q9
                  go_wp2_with (first | (at_builtin; refine wpList_append_own_at _ rfl _ _ 26 rfl pb 3 i0 (.int .i64 0) 1 8 Try.underlying26 hi0 iz0 iz1 iz2 rfl (by decide) cv P.c.length (intV P.c) rfl hownc ⟨W9.heap.size, 0, none⟩ 1 1 [.int .i64 v.wo] rfl rfl HQ9.out.news (by intro u hu; simp at hu; subst hu; rfl) (by unfold maxLen; omega) (by omega) HPA.out.sz ?_) | fail)
                  intro vc WC oc hgc _ hatc
                  obtain ⟨qac, qcc, rfl⟩ := kown_form oc
                  have hpc := HPA.out.pv.push_c oc hgc (by rw [World.size_alloc]; exact hatc)
                  obtain ⟨bc1, bc2, bc3, bc4⟩ := HPA.out.kept hownc hgc (by decide) (by decide)
                  have w3 := ibx bc1 3 cv rfl
                  have w3f := free_at (L := [_, _, _, _]) bc1 3
                  have bcs := set_at (L := [_, _, _, _]) (k := 3) (v := .slice qac (P.c.length + 1) qcc) bc1
                  have hps := hpc.set (i := 3) bc1 (by decide) (by decide) (.slice qac (P.c.length + 1) qcc)
                  have bbs := bc3.setCell (p := ⟨pb, 3, none⟩) (Nat.le_refl _) (.slice qac (P.c.length + 1) qcc)
                  have HBX : Hid (Bx (WC.setCell ⟨pb, 3, none⟩ (.slice qac (P.c.length + 1) qcc)) W5 pb (P1 V (k + 1))) := hid ⟨_, _, _, _, _, by simpa using bcs, by rw [HPS.out]; exact hps, bbs, by simpa [World.setCell] using bc4⟩
                  clear oc hgc hatc hpc bc1 bc2 bc3 bc4 bcs hps bbs hownc HPA HQ9
                  go_wp2_with fail
                  go_roundw
                  case rel => exact ⟨k + 1, by omega, by go_num, HBX⟩
                  case measure => simp [intOf]; omega
          · go_simp
            refine hKc.out _ _ (HS.out _ (hP2.alloc _).box (hP2.alloc _).vbx) (fun hHeld => ?_)
            clear hKc Kc
            (try simp only [List.getElem_toArray, List.getElem_cons_zero, List.getElem_cons_succ, Act.put, List.setIfInBounds_toArray, List.set_cons_zero, List.set_cons_succ])
            have hP3 := hP2.alloc (Obj.cells #[.int .i64 (v.hi - v.lo)] 3)
            have p2_3 := Pd.new hP2 3 (.int .i64 (v.hi - v.lo))
            clear hP2
            generalize R2.alloc (Obj.cells #[.int .i64 (v.hi - v.lo)] 3) = R3 at *
            generalize R2.heap.size = g2 at *
            refine wpAnyH_ready (rs := [7]) (by kernel_rfl) (by simp) ?_
            refine AllReadyH.cons (o := _) rfl (fun Kc hKc => ?_) (AllReadyH.nil)
            · go_simp
              refine hKc.out _ _ (HS.out _ (hP3.alloc _).box (hP3.alloc _).vbx) (fun hHeld => ?_)
              clear hKc Kc
              (try simp only [List.getElem_toArray, List.getElem_cons_zero, List.getElem_cons_succ, Act.put, List.setIfInBounds_toArray, List.set_cons_zero, List.set_cons_succ])
              have hP4 := hP3.alloc (Obj.cells #[.int .i64 (-1)] 3)
              have p1_4 := Pd.new hP3 3 (.int .i64 (-1))
              have p2_4 := p2_3.alloc (Obj.cells #[.int .i64 (-1)] 3)
              clear p2_3
              clear hP3
              generalize R3.alloc (Obj.cells #[.int .i64 (-1)] 3) = R4 at *
              generalize R3.heap.size = g1 at *
              refine wpAnyH_ready (rs := [8]) (by kernel_rfl) (by simp) ?_
              refine AllReadyH.cons (o := _) rfl (fun Kc hKc => ?_) (AllReadyH.nil)
              · refine step_append_at rfl _ _ 26 rfl pb 3 i0 (.int .i64 0) 1 8 Try.underlying26 hi0 iz0 iz1 iz2 rfl (by decide) ev P.rel.length (intV P.rel) rfl hP4.pv.rel ⟨g1, 0, none⟩ 1 1 [.int .i64 (-1)] rfl rfl p1_4.news (by intro u hu; simp at hu; subst hu; rfl) (by unfold maxLen; omega) (by omega) hP4.sz ?_
                intro v1 R5 o1 hg1 hat1
                obtain ⟨qa1, qc1, rfl⟩ := kown_form o1
                have hP5 := hP4.pe (by decide) (by decide) o1 hg1 hat1
                have p2_5 := p2_4.ge hg1 hat1
                clear p2_4
                clear p1_4 o1 hg1 hat1 hP4
                refine hKc.out _ _ (HS.out _ hP5.box hP5.vbx) (fun hHeld => ?_)
                clear hKc Kc
                (try simp only [List.getElem_toArray, List.getElem_cons_zero, List.getElem_cons_succ, Act.put, List.setIfInBounds_toArray, List.set_cons_zero, List.set_cons_succ])
                refine wpAnyH_ready (rs := [17]) (by kernel_rfl) (by simp) ?_
                refine AllReadyH.cons (o := _) rfl (fun Kc hKc => ?_) (AllReadyH.nil)
                · refine step_append_at rfl _ _ 26 rfl pb 3 i0 (.int .i64 0) 1 8 Try.underlying26 hi0 iz0 iz1 iz2 rfl (by decide) bv P.b.length (intV P.b) rfl hP5.pv.b ⟨g2, 0, none⟩ 1 1 [.int .i64 (v.hi - v.lo)] rfl rfl p2_5.news (by intro u hu; simp at hu; subst hu; rfl) (by unfold maxLen; omega) (by omega) hP5.sz ?_
                  intro v2 R6 o2 hg2 hat2
                  obtain ⟨qa2, qc2, rfl⟩ := kown_form o2
                  have hP6 := hP5.pb_ (by decide) (by decide) o2 hg2 hat2
                  clear p2_5 o2 hg2 hat2 hP5
                  refine hKc.out _ _ (HS.out _ hP6.box hP6.vbx) (fun hHeld => ?_)
                  clear hKc Kc
                  (try simp only [List.getElem_toArray, List.getElem_cons_zero, List.getElem_cons_succ, Act.put, List.setIfInBounds_toArray, List.set_cons_zero, List.set_cons_succ])
                  refine wpAnyH_done (by kernel_rfl) ?_ _
                  intro r
                  have b6 := hP6.box
                  have b7 : (R6.setCell ⟨pb, 0, none⟩ (.slice qa0 (P.rows.length + 1) qc0)).heap[pb]? = some (.cells #[.slice qa0 (P.rows.length + 1) qc0, ev, bv, cv] 32 (0, 0)) := by simpa using set_at (L := [rv, ev, bv, cv]) (k := 0) (v := .slice qa0 (P.rows.length + 1) qc0) b6
                  have b8 : ((R6.setCell ⟨pb, 0, none⟩ (.slice qa0 (P.rows.length + 1) qc0)).setCell ⟨pb, 1, none⟩ (.slice qa1 (P.rel.length + 1) qc1)).heap[pb]? = some (.cells #[.slice qa0 (P.rows.length + 1) qc0, .slice qa1 (P.rel.length + 1) qc1, bv, cv] 32 (0, 0)) := by simpa using set_at (L := [.slice qa0 (P.rows.length + 1) qc0, ev, bv, cv]) (k := 1) (v := .slice qa1 (P.rel.length + 1) qc1) b7
                  have b9 : (((R6.setCell ⟨pb, 0, none⟩ (.slice qa0 (P.rows.length + 1) qc0)).setCell ⟨pb, 1, none⟩ (.slice qa1 (P.rel.length + 1) qc1)).setCell ⟨pb, 2, none⟩ (.slice qa2 (P.b.length + 1) qc2)).heap[pb]? = some (.cells #[.slice qa0 (P.rows.length + 1) qc0, .slice qa1 (P.rel.length + 1) qc1, .slice qa2 (P.b.length + 1) qc2, cv] 32 (0, 0)) := by simpa using set_at (L := [.slice qa0 (P.rows.length + 1) qc0, .slice qa1 (P.rel.length + 1) qc1, bv, cv]) (k := 2) (v := .slice qa2 (P.b.length + 1) qc2) b8
                  have c60 := ibx b6 0 rv rfl
                  have f60 := free_at (L := [rv, ev, bv, cv]) b6 0
                  have c61 := ibx b6 1 ev rfl
                  have f61 := free_at (L := [rv, ev, bv, cv]) b6 1
                  have c62 := ibx b6 2 bv rfl
                  have f62 := free_at (L := [rv, ev, bv, cv]) b6 2
                  have h9 := ((hP6.pv.set (i := 0) b6 (by decide) (by decide) (.slice qa0 (P.rows.length + 1) qc0)).set (i := 1) b7 (by decide) (by decide) (.slice qa1 (P.rel.length + 1) qc1)).set (i := 2) b8 (by decide) (by decide) (.slice qa2 (P.b.length + 1) qc2)
                  have B9 : Below pb W5 (((R6.setCell ⟨pb, 0, none⟩ (.slice qa0 (P.rows.length + 1) qc0)).setCell ⟨pb, 1, none⟩ (.slice qa1 (P.rel.length + 1) qc1)).setCell ⟨pb, 2, none⟩ (.slice qa2 (P.b.length + 1) qc2)) := ((hP6.bel.setCell (p := ⟨pb, 0, none⟩) (Nat.le_refl _) _).setCell (p := ⟨pb, 1, none⟩) (Nat.le_refl _) _).setCell (p := ⟨pb, 2, none⟩) (Nat.le_refl _) _
                  have x9 : (((R6.setCell ⟨pb, 0, none⟩ (.slice qa0 (P.rows.length + 1) qc0)).setCell ⟨pb, 1, none⟩ (.slice qa1 (P.rel.length + 1) qc1)).setCell ⟨pb, 2, none⟩ (.slice qa2 (P.b.length + 1) qc2)).heap[vb]? = some (.cells #[.int .i64 v.f, .int .i64 v.t, .int .i64 v.lo, .int .i64 v.hi, .int .i64 v.wo] 48 (0, 0)) := by
                    rw [Below.heap_setCell _ _ _ _ HVP.out, Below.heap_setCell _ _ _ _ HVP.out, Below.heap_setCell _ _ _ _ HVP.out]
                    exact hP6.vbx
                  have s9 : pb ≤ (((R6.setCell ⟨pb, 0, none⟩ (.slice qa0 (P.rows.length + 1) qc0)).setCell ⟨pb, 1, none⟩ (.slice qa1 (P.rel.length + 1) qc1)).setCell ⟨pb, 2, none⟩ (.slice qa2 (P.b.length + 1) qc2)).heap.size := by simpa [World.setCell] using hP6.sz
                  clear hP6 b6 b7 b8 hHeld
                  refine wpAny_ready (rs := [19]) (by kernel_rfl) (by simp) ?_
                  refine AllReady.cons (o := _) rfl (fun Kc hKc => ?_) AllReady.nil
                  go_simp
                  refine hKc _ _ ?_
                  clear hKc Kc
                  (try simp only [List.getElem_toArray, List.getElem_cons_zero, List.getElem_cons_succ, Act.put, List.setIfInBounds_toArray, List.set_cons_zero, List.set_cons_succ])
                  refine wpAny_ready (rs := [20]) (by kernel_rfl) (by simp) ?_
                  refine AllReady.cons (o := _) rfl (fun Kc hKc => ?_) AllReady.nil
                  go_simp
                  refine hKc _ _ ?_
                  clear hKc Kc
                  (try simp only [List.getElem_toArray, List.getElem_cons_zero, List.getElem_cons_succ, Act.put, List.setIfInBounds_toArray, List.set_cons_zero, List.set_cons_succ])
                  refine wpAny_ready (rs := [21]) (by kernel_rfl) (by simp) ?_
                  refine AllReady.cons (o := _) rfl (fun Kc hKc => ?_) AllReady.nil
                  go_simp
                  refine hKc _ _ ?_
                  clear hKc Kc
                  (try simp only [List.getElem_toArray, List.getElem_cons_zero, List.getElem_cons_succ, Act.put, List.setIfInBounds_toArray, List.set_cons_zero, List.set_cons_succ])
                  refine wpAny_ready (rs := [22]) (by kernel_rfl) (by simp) ?_
                  refine AllReady.cons (o := _) rfl (fun Kc hKc => ?_) AllReady.nil
                  go_simp
                  refine hKc _ _ ?_
                  clear hKc Kc
                  (try simp only [List.getElem_toArray, List.getElem_cons_zero, List.getElem_cons_succ, Act.put, List.setIfInBounds_toArray, List.set_cons_zero, List.set_cons_succ])
                  refine wpAny_ready (rs := [23]) (by kernel_rfl) (by simp) ?_
                  refine AllReady.cons (o := _) rfl (fun Kc hKc => ?_) AllReady.nil
                  go_simp
                  refine hKc _ _ ?_
                  clear hKc Kc
                  (try simp only [List.getElem_toArray, List.getElem_cons_zero, List.getElem_cons_succ, Act.put, List.setIfInBounds_toArray, List.set_cons_zero, List.set_cons_succ])
                  refine wpAny_done (by kernel_rfl) ?_ _
                  refine NoPanic.normal ?_
                  clear c60 f60 c61 f61 c62 f62
                  generalize ((R6.setCell ⟨pb, 0, none⟩ (.slice qa0 (P.rows.length + 1) qc0)).setCell ⟨pb, 1, none⟩ (.slice qa1 (P.rel.length + 1) qc1)).setCell ⟨pb, 2, none⟩ (.slice qa2 (P.b.length + 1) qc2) = W9 at *
                  have hP9 : P3 32 48 W5 W9 pb vb _ _ _ _ _ _ _ _ := ⟨h9, b9, x9, B9, s9⟩
                  have hPA := hP9.alloc (Obj.cells #[.int .i64 v.wo] 3)
                  have q9 := Pd.new hP9 3 (.int .i64 v.wo)
                  have y3 := ibx b9 3 cv rfl
                  have y4 := ibx x9 4 (.int .i64 v.wo) rfl
                  clear h9 b9 x9 B9 s9 hP9
                  have HPA := hid hPA
                  have HQ9 := hid q9
                  have hownc : (W9.alloc (Obj.cells #[.int .i64 v.wo] 3)).ownsRow pb 3 1 cv P.c.length (intV P.c) := hPA.pv.c
                  clear hPA q9
                  go_wp2_with (first | (at_builtin; refine wpList_append_own_at _ rfl _ _ 26 rfl pb 3 i0 (.int .i64 0) 1 8 Try.underlying26 hi0 iz0 iz1 iz2 rfl (by decide) cv P.c.length (intV P.c) rfl hownc ⟨W9.heap.size, 0, none⟩ 1 1 [.int .i64 v.wo] rfl rfl HQ9.out.news (by intro u hu; simp at hu; subst hu; rfl) (by unfold maxLen; omega) (by omega) HPA.out.sz ?_) | fail)
                  intro vc WC oc hgc _ hatc
                  obtain ⟨qac, qcc, rfl⟩ := kown_form oc
                  have hpc := HPA.out.pv.push_c oc hgc (by rw [World.size_alloc]; exact hatc)
                  obtain ⟨bc1, bc2, bc3, bc4⟩ := HPA.out.kept hownc hgc (by decide) (by decide)
                  have w3 := ibx bc1 3 cv rfl
                  have w3f := free_at (L := [_, _, _, _]) bc1 3
                  have bcs := set_at (L := [_, _, _, _]) (k := 3) (v := .slice qac (P.c.length + 1) qcc) bc1
                  have hps := hpc.set (i := 3) bc1 (by decide) (by decide) (.slice qac (P.c.length + 1) qcc)
                  have bbs := bc3.setCell (p := ⟨pb, 3, none⟩) (Nat.le_refl _) (.slice qac (P.c.length + 1) qcc)
                  have HBX : Hid (Bx (WC.setCell ⟨pb, 3, none⟩ (.slice qac (P.c.length + 1) qcc)) W5 pb (P1 V (k + 1))) := hid ⟨_, _, _, _, _, by simpa using bcs, by rw [HPS.out]; exact hps, bbs, by simpa [World.setCell] using bc4⟩
                  clear oc hgc hatc hpc bc1 bc2 bc3 bc4 bcs hps bbs hownc HPA HQ9
                  go_wp2_with fail
                  go_roundw
                  case rel => exact ⟨k + 1, by omega, by go_num, HBX⟩
                  case measure => simp [intOf]; omega
        · go_simp
          refine hKc.out _ _ (HS.out _ (hP1.alloc _).box (hP1.alloc _).vbx) (fun hHeld => ?_)
          clear hKc Kc
          (try simp only [List.getElem_toArray, List.getElem_cons_zero, List.getElem_cons_succ, Act.put, List.setIfInBounds_toArray, List.set_cons_zero, List.set_cons_succ])
          have hP2 := hP1.alloc (Obj.cells #[.int .i64 (-1)] 3)
          have p1_2 := Pd.new hP1 3 (.int .i64 (-1))
          have p0_2 := p0_1.alloc (Obj.cells #[.int .i64 (-1)] 3)
          have io2 : IO (R1.alloc (Obj.cells #[.int .i64 (-1)] 3)) pb (Value.slice (some ⟨vb + 1, 0, none⟩) V.length V.length) LU := World.ownsRow.alloc io1 _
          clear io1
          clear p0_1
          clear hP1
          generalize R1.alloc (Obj.cells #[.int .i64 (-1)] 3) = R2 at *
          generalize R1.heap.size = g1 at *
          refine wpAnyH_ready (rs := [4, 16]) (by kernel_rfl) (by simp) ?_
          refine AllReadyH.cons (o := _) rfl (fun Kc hKc => ?_) (AllReadyH.cons (o := _) rfl (fun Kc hKc => ?_) (AllReadyH.nil))
          · refine step_append_at rfl _ _ 30 rfl pb 26 j0 (.slice none 0 0) 1 24 Try.underlying30 hj0 jz0 jz1 jz2 rfl (by decide) rv P.rows.length vs rfl hP2.pv.rows ⟨g0, 0, none⟩ 1 1 [(Value.slice (some ⟨vb + 1, 0, none⟩) V.length V.length)] rfl rfl p0_2.news (by intro u hu; simp at hu; subst hu; rfl) (by unfold maxLen; omega) (by omega) hP2.sz ?_
            intro v0 R3 o0 hg0 hat0
            obtain ⟨qa0, qc0, rfl⟩ := kown_form o0
            have hP3 := hP2.pr (by decide) (by decide) (L := LU) io2 HD.out.1 HD.out.2.1 HD.out.2.2 o0 hg0
            clear io2
            have p1_3 := p1_2.gr hg0 hat0
            clear p1_2
            clear p0_2 o0 hg0 hat0 hP2
            refine hKc.out _ _ (HS.out _ hP3.box hP3.vbx) (fun hHeld => ?_)
            clear hKc Kc
            (try simp only [List.getElem_toArray, List.getElem_cons_zero, List.getElem_cons_succ, Act.put, List.setIfInBounds_toArray, List.set_cons_zero, List.set_cons_succ])
            refine wpAnyH_take (i := 18) (v := ?_) rfl (by kernel_rfl) (by kernel_rfl) (by kernel_rfl) (fun _ _ _ h => h) (Or.inl ⟨by rfl, ?_⟩) (by assumption) ?_
            rotate_left
            · intro w hSw
              (try dsimp only at hSw)
              go_simp
              (try with_reducible rfl)
            (try simp only [List.getElem_toArray, List.getElem_cons_zero, List.getElem_cons_succ, Act.put, List.setIfInBounds_toArray, List.set_cons_zero, List.set_cons_succ])
            refine wpAnyH_ready (rs := [8, 16]) (by kernel_rfl) (by simp) ?_
            refine AllReadyH.cons (o := _) rfl (fun Kc hKc => ?_) (AllReadyH.cons (o := _) rfl (fun Kc hKc => ?_) (AllReadyH.nil))
            · refine step_append_at rfl _ _ 26 rfl pb 3 i0 (.int .i64 0) 1 8 Try.underlying26 hi0 iz0 iz1 iz2 rfl (by decide) ev P.rel.length (intV P.rel) rfl hP3.pv.rel ⟨g1, 0, none⟩ 1 1 [.int .i64 (-1)] rfl rfl p1_3.news (by intro u hu; simp at hu; subst hu; rfl) (by unfold maxLen; omega) (by omega) hP3.sz ?_
              intro v1 R4 o1 hg1 hat1
              obtain ⟨qa1, qc1, rfl⟩ := kown_form o1
              have hP4 := hP3.pe (by decide) (by decide) o1 hg1 hat1
              clear p1_3 o1 hg1 hat1 hP3
              refine hKc.out _ _ (HS.out _ hP4.box hP4.vbx) (fun hHeld => ?_)
              clear hKc Kc
              (try simp only [List.getElem_toArray, List.getElem_cons_zero, List.getElem_cons_succ, Act.put, List.setIfInBounds_toArray, List.set_cons_zero, List.set_cons_succ])
              refine wpAnyH_ready (rs := [16]) (by kernel_rfl) (by simp) ?_
              refine AllReadyH.cons (o := _) rfl (fun Kc hKc => ?_) (AllReadyH.nil)
              · go_simp
                refine hKc.out _ _ (HS.out _ (hP4.alloc _).box (hP4.alloc _).vbx) (fun hHeld => ?_)
                clear hKc Kc
                (try simp only [List.getElem_toArray, List.getElem_cons_zero, List.getElem_cons_succ, Act.put, List.setIfInBounds_toArray, List.set_cons_zero, List.set_cons_succ])
                have hP5 := hP4.alloc (Obj.cells #[.int .i64 (v.hi - v.lo)] 3)
                have p2_5 := Pd.new hP4 3 (.int .i64 (v.hi - v.lo))
                clear hP4
                generalize R4.alloc (Obj.cells #[.int .i64 (v.hi - v.lo)] 3) = R5 at *
                generalize R4.heap.size = g2 at *
                refine wpAnyH_ready (rs := [17]) (by kernel_rfl) (by simp) ?_
                refine AllReadyH.cons (o := _) rfl (fun Kc hKc => ?_) (AllReadyH.nil)
                · refine step_append_at rfl _ _ 26 rfl pb 3 i0 (.int .i64 0) 1 8 Try.underlying26 hi0 iz0 iz1 iz2 rfl (by decide) bv P.b.length (intV P.b) rfl hP5.pv.b ⟨g2, 0, none⟩ 1 1 [.int .i64 (v.hi - v.lo)] rfl rfl p2_5.news (by intro u hu; simp at hu; subst hu; rfl) (by unfold maxLen; omega) (by omega) hP5.sz ?_
                  intro v2 R6 o2 hg2 hat2
                  obtain ⟨qa2, qc2, rfl⟩ := kown_form o2
                  have hP6 := hP5.pb_ (by decide) (by decide) o2 hg2 hat2
                  clear p2_5 o2 hg2 hat2 hP5
                  refine hKc.out _ _ (HS.out _ hP6.box hP6.vbx) (fun hHeld => ?_)
                  clear hKc Kc
                  (try simp only [List.getElem_toArray, List.getElem_cons_zero, List.getElem_cons_succ, Act.put, List.setIfInBounds_toArray, List.set_cons_zero, List.set_cons_succ])
                  refine wpAnyH_done (by kernel_rfl) ?_ _
                  intro r
                  have b6 := hP6.box
                  have b7 : (R6.setCell ⟨pb, 0, none⟩ (.slice qa0 (P.rows.length + 1) qc0)).heap[pb]? = some (.cells #[.slice qa0 (P.rows.length + 1) qc0, ev, bv, cv] 32 (0, 0)) := by simpa using set_at (L := [rv, ev, bv, cv]) (k := 0) (v := .slice qa0 (P.rows.length + 1) qc0) b6
                  have b8 : ((R6.setCell ⟨pb, 0, none⟩ (.slice qa0 (P.rows.length + 1) qc0)).setCell ⟨pb, 1, none⟩ (.slice qa1 (P.rel.length + 1) qc1)).heap[pb]? = some (.cells #[.slice qa0 (P.rows.length + 1) qc0, .slice qa1 (P.rel.length + 1) qc1, bv, cv] 32 (0, 0)) := by simpa using set_at (L := [.slice qa0 (P.rows.length + 1) qc0, ev, bv, cv]) (k := 1) (v := .slice qa1 (P.rel.length + 1) qc1) b7
                  have b9 : (((R6.setCell ⟨pb, 0, none⟩ (.slice qa0 (P.rows.length + 1) qc0)).setCell ⟨pb, 1, none⟩ (.slice qa1 (P.rel.length + 1) qc1)).setCell ⟨pb, 2, none⟩ (.slice qa2 (P.b.length + 1) qc2)).heap[pb]? = some (.cells #[.slice qa0 (P.rows.length + 1) qc0, .slice qa1 (P.rel.length + 1) qc1, .slice qa2 (P.b.length + 1) qc2, cv] 32 (0, 0)) := by simpa using set_at (L := [.slice qa0 (P.rows.length + 1) qc0, .slice qa1 (P.rel.length + 1) qc1, bv, cv]) (k := 2) (v := .slice qa2 (P.b.length + 1) qc2) b8
                  have c60 := ibx b6 0 rv rfl
                  have f60 := free_at (L := [rv, ev, bv, cv]) b6 0
                  have c61 := ibx b6 1 ev rfl
                  have f61 := free_at (L := [rv, ev, bv, cv]) b6 1
                  have c62 := ibx b6 2 bv rfl
                  have f62 := free_at (L := [rv, ev, bv, cv]) b6 2
                  have h9 := ((hP6.pv.set (i := 0) b6 (by decide) (by decide) (.slice qa0 (P.rows.length + 1) qc0)).set (i := 1) b7 (by decide) (by decide) (.slice qa1 (P.rel.length + 1) qc1)).set (i := 2) b8 (by decide) (by decide) (.slice qa2 (P.b.length + 1) qc2)
                  have B9 : Below pb W5 (((R6.setCell ⟨pb, 0, none⟩ (.slice qa0 (P.rows.length + 1) qc0)).setCell ⟨pb, 1, none⟩ (.slice qa1 (P.rel.length + 1) qc1)).setCell ⟨pb, 2, none⟩ (.slice qa2 (P.b.length + 1) qc2)) := ((hP6.bel.setCell (p := ⟨pb, 0, none⟩) (Nat.le_refl _) _).setCell (p := ⟨pb, 1, none⟩) (Nat.le_refl _) _).setCell (p := ⟨pb, 2, none⟩) (Nat.le_refl _) _
                  have x9 : (((R6.setCell ⟨pb, 0, none⟩ (.slice qa0 (P.rows.length + 1) qc0)).setCell ⟨pb, 1, none⟩ (.slice qa1 (P.rel.length + 1) qc1)).setCell ⟨pb, 2, none⟩ (.slice qa2 (P.b.length + 1) qc2)).heap[vb]? = some (.cells #[.int .i64 v.f, .int .i64 v.t, .int .i64 v.lo, .int .i64 v.hi, .int .i64 v.wo] 48 (0, 0)) := by
                    rw [Below.heap_setCell _ _ _ _ HVP.out, Below.heap_setCell _ _ _ _ HVP.out, Below.heap_setCell _ _ _ _ HVP.out]
                    exact hP6.vbx
                  have s9 : pb ≤ (((R6.setCell ⟨pb, 0, none⟩ (.slice qa0 (P.rows.length + 1) qc0)).setCell ⟨pb, 1, none⟩ (.slice qa1 (P.rel.length + 1) qc1)).setCell ⟨pb, 2, none⟩ (.slice qa2 (P.b.length + 1) qc2)).heap.size := by simpa [World.setCell] using hP6.sz
                  clear hP6 b6 b7 b8 hHeld
                  refine wpAny_ready (rs := [19]) (by kernel_rfl) (by simp) ?_
                  refine AllReady.cons (o := _) rfl (fun Kc hKc => ?_) AllReady.nil
                  go_simp
                  refine hKc _ _ ?_
                  clear hKc Kc
                  (try simp only [List.getElem_toArray, List.getElem_cons_zero, List.getElem_cons_succ, Act.put, List.setIfInBounds_toArray, List.set_cons_zero, List.set_cons_succ])
                  refine wpAny_ready (rs := [20]) (by kernel_rfl) (by simp) ?_
                  refine AllReady.cons (o := _) rfl (fun Kc hKc => ?_) AllReady.nil
                  go_simp
                  refine hKc _ _ ?_
                  clear hKc Kc
                  (try simp only [List.getElem_toArray, List.getElem_cons_zero, List.getElem_cons_succ, Act.put, List.setIfInBounds_toArray, List.set_cons_zero, List.set_cons_succ])
                  refine wpAny_ready (rs := [21]) (by kernel_rfl) (by simp) ?_
                  refine AllReady.cons (o := _) rfl (fun Kc hKc => ?_) AllReady.nil
                  go_simp
                  refine hKc _ _ ?_
                  clear hKc Kc
                  (try simp only [List.getElem_toArray, List.getElem_cons_zero, List.getElem_cons_succ, Act.put, List.setIfInBounds_toArray, List.set_cons_zero, List.set_cons_succ])
                  refine wpAny_ready (rs := [22]) (by kernel_rfl) (by simp) ?_
                  refine AllReady.cons (o := _) rfl (fun Kc hKc => ?_) AllReady.nil
                  go_simp
                  refine hKc _ _ ?_
                  clear hKc Kc
                  (try simp only [List.getElem_toArray, List.getElem_cons_zero, List.getElem_cons_succ, Act.put, List.setIfInBounds_toArray, List.set_cons_zero, List.set_cons_succ])
                  refine wpAny_ready (rs := [23]) (by kernel_rfl) (by simp) ?_
                  refine AllReady.cons (o := _) rfl (fun Kc hKc => ?_) AllReady.nil
                  go_simp
                  refine hKc _ _ ?_
                  clear hKc Kc
                  (try simp only [List.getElem_toArray, List.getElem_cons_zero, List.getElem_cons_succ, Act.put, List.setIfInBounds_toArray, List.set_cons_zero, List.set_cons_succ])
                  refine wpAny_done (by kernel_rfl) ?_ _
                  refine NoPanic.normal ?_
                  clear c60 f60 c61 f61 c62 f62
                  generalize ((R6.setCell ⟨pb, 0, none⟩ (.slice qa0 (P.rows.length + 1) qc0)).setCell ⟨pb, 1, none⟩ (.slice qa1 (P.rel.length + 1) qc1)).setCell ⟨pb, 2, none⟩ (.slice qa2 (P.b.length + 1) qc2) = W9 at *
                  have hP9 : P3 32 48 W5 W9 pb vb _ _ _ _ _ _ _ _ := ⟨h9, b9, x9, B9, s9⟩
                  have hPA := hP9.alloc (Obj.cells #[.int .i64 v.wo] 3)
                  have q9 := Pd.new hP9 3 (.int .i64 v.wo)
                  have y3 := ibx b9 3 cv rfl
                  have y4 := ibx x9 4 (.int .i64 v.wo) rfl
                  clear h9 b9 x9 B9 s9 hP9
                  have HPA := hid hPA
                  have HQ9 := hid q9
                  have hownc : (W9.alloc (Obj.cells #[.int .i64 v.wo] 3)).ownsRow pb 3 1 cv P.c.length (intV P.c) := hPA.pv.c
                  clear hPA q9
                  go_wp2_with (first | (at_builtin; refine wpList_append_own_at _ rfl _ _ 26 rfl pb 3 i0 (.int .i64 0) 1 8 Try.underlying26 hi0 iz0 iz1 iz2 rfl (by decide) cv P.c.length (intV P.c) rfl hownc ⟨W9.heap.size, 0, none⟩ 1 1 [.int .i64 v.wo] rfl rfl HQ9.out.news (by intro u hu; simp at hu; subst hu; rfl) (by unfold maxLen; omega) (by omega) HPA.out.sz ?_) | fail)
                  intro vc WC oc hgc _ hatc
                  obtain ⟨qac, qcc, rfl⟩ := kown_form oc
                  have hpc := HPA.out.pv.push_c oc hgc (by rw [World.size_alloc]; exact hatc)
                  obtain ⟨bc1, bc2, bc3, bc4⟩ := HPA.out.kept hownc hgc (by decide) (by decide)
                  have w3 := ibx bc1 3 cv rfl
                  have w3f := free_at (L := [_, _, _, _]) bc1 3
                  have bcs := set_at (L := [_, _, _, _]) (k := 3) (v := .slice qac (P.c.length + 1) qcc) bc1
                  have hps := hpc.set (i := 3) bc1 (by decide) (by decide) (.slice qac (P.c.length + 1) qcc)
                  have bbs := bc3.setCell (p := ⟨pb, 3, none⟩) (Nat.le_refl _) (.slice qac (P.c.length + 1) qcc)
                  have HBX : Hid (Bx (WC.setCell ⟨pb, 3, none⟩ (.slice qac (P.c.length + 1) qcc)) W5 pb (P1 V (k + 1))) := hid ⟨_, _, _, _, _, by simpa using bcs, by rw [HPS.out]; exact hps, bbs, by simpa [World.setCell] using bc4⟩
                  clear oc hgc hatc hpc bc1 bc2 bc3 bc4 bcs hps bbs hownc HPA HQ9
                  go_wp2_with fail
                  go_roundw
                  case rel => exact ⟨k + 1, by omega, by go_num, HBX⟩
                  case measure => simp [intOf]; omega
            · go_simp
              refine hKc.out _ _ (HS.out _ (hP3.alloc _).box (hP3.alloc _).vbx) (fun hHeld => ?_)
              clear hKc Kc
              (try simp only [List.getElem_toArray, List.getElem_cons_zero, List.getElem_cons_succ, Act.put, List.setIfInBounds_toArray, List.set_cons_zero, List.set_cons_succ])
              have hP4 := hP3.alloc (Obj.cells #[.int .i64 (v.hi - v.lo)] 3)
              have p2_4 := Pd.new hP3 3 (.int .i64 (v.hi - v.lo))
              have p1_4 := p1_3.alloc (Obj.cells #[.int .i64 (v.hi - v.lo)] 3)
              clear p1_3
              clear hP3
              generalize R3.alloc (Obj.cells #[.int .i64 (v.hi - v.lo)] 3) = R4 at *
              generalize R3.heap.size = g2 at *
              refine wpAnyH_ready (rs := [8]) (by kernel_rfl) (by simp) ?_
              refine AllReadyH.cons (o := _) rfl (fun Kc hKc => ?_) (AllReadyH.nil)
              · refine step_append_at rfl _ _ 26 rfl pb 3 i0 (.int .i64 0) 1 8 Try.underlying26 hi0 iz0 iz1 iz2 rfl (by decide) ev P.rel.length (intV P.rel) rfl hP4.pv.rel ⟨g1, 0, none⟩ 1 1 [.int .i64 (-1)] rfl rfl p1_4.news (by intro u hu; simp at hu; subst hu; rfl) (by unfold maxLen; omega) (by omega) hP4.sz ?_
                intro v1 R5 o1 hg1 hat1
                obtain ⟨qa1, qc1, rfl⟩ := kown_form o1
                have hP5 := hP4.pe (by decide) (by decide) o1 hg1 hat1
                have p2_5 := p2_4.ge hg1 hat1
                clear p2_4
                clear p1_4 o1 hg1 hat1 hP4
                refine hKc.out _ _ (HS.out _ hP5.box hP5.vbx) (fun hHeld => ?_)
                clear hKc Kc
                (try simp only [List.getElem_toArray, List.getElem_cons_zero, List.getElem_cons_succ, Act.put, List.setIfInBounds_toArray, List.set_cons_zero, List.set_cons_succ])
                refine wpAnyH_ready (rs := [17]) (by kernel_rfl) (by simp) ?_
                refine AllReadyH.cons (o := _) rfl (fun Kc hKc => ?_) (AllReadyH.nil)
                · refine step_append_at rfl _ _ 26 rfl pb 3 i0 (.int .i64 0) 1 8 Try.underlying26 hi0 iz0 iz1 iz2 rfl (by decide) bv P.b.length (intV P.b) rfl hP5.pv.b ⟨g2, 0, none⟩ 1 1 [.int .i64 (v.hi - v.lo)] rfl rfl p2_5.news (by intro u hu; simp at hu; subst hu; rfl) (by unfold maxLen; omega) (by omega) hP5.sz ?_
                  intro v2 R6 o2 hg2 hat2
                  obtain ⟨qa2, qc2, rfl⟩ := kown_form o2
                  have hP6 := hP5.pb_ (by decide) (by decide) o2 hg2 hat2
                  clear p2_5 o2 hg2 hat2 hP5
                  refine hKc.out _ _ (HS.out _ hP6.box hP6.vbx) (fun hHeld => ?_)
                  clear hKc Kc
                  (try simp only [List.getElem_toArray, List.getElem_cons_zero, List.getElem_cons_succ, Act.put, List.setIfInBounds_toArray, List.set_cons_zero, List.set_cons_succ])
                  refine wpAnyH_done (by kernel_rfl) ?_ _
                  intro r
                  have b6 := hP6.box
                  have b7 : (R6.setCell ⟨pb, 0, none⟩ (.slice qa0 (P.rows.length + 1) qc0)).heap[pb]? = some (.cells #[.slice qa0 (P.rows.length + 1) qc0, ev, bv, cv] 32 (0, 0)) := by simpa using set_at (L := [rv, ev, bv, cv]) (k := 0) (v := .slice qa0 (P.rows.length + 1) qc0) b6
                  have b8 : ((R6.setCell ⟨pb, 0, none⟩ (.slice qa0 (P.rows.length + 1) qc0)).setCell ⟨pb, 1, none⟩ (.slice qa1 (P.rel.length + 1) qc1)).heap[pb]? = some (.cells #[.slice qa0 (P.rows.length + 1) qc0, .slice qa1 (P.rel.length + 1) qc1, bv, cv] 32 (0, 0)) := by simpa using set_at (L := [.slice qa0 (P.rows.length + 1) qc0, ev, bv, cv]) (k := 1) (v := .slice qa1 (P.rel.length + 1) qc1) b7
                  have b9 : (((R6.setCell ⟨pb, 0, none⟩ (.slice qa0 (P.rows.length + 1) qc0)).setCell ⟨pb, 1, none⟩ (.slice qa1 (P.rel.length + 1) qc1)).setCell ⟨pb, 2, none⟩ (.slice qa2 (P.b.length + 1) qc2)).heap[pb]? = some (.cells #[.slice qa0 (P.rows.length + 1) qc0, .slice qa1 (P.rel.length + 1) qc1, .slice qa2 (P.b.length + 1) qc2, cv] 32 (0, 0)) := by simpa using set_at (L := [.slice qa0 (P.rows.length + 1) qc0, .slice qa1 (P.rel.length + 1) qc1, bv, cv]) (k := 2) (v := .slice qa2 (P.b.length + 1) qc2) b8
                  have c60 := ibx b6 0 rv rfl
                  have f60 := free_at (L := [rv, ev, bv, cv]) b6 0
                  have c61 := ibx b6 1 ev rfl
                  have f61 := free_at (L := [rv, ev, bv, cv]) b6 1
                  have c62 := ibx b6 2 bv rfl
                  have f62 := free_at (L := [rv, ev, bv, cv]) b6 2
                  have h9 := ((hP6.pv.set (i := 0) b6 (by decide) (by decide) (.slice qa0 (P.rows.length + 1) qc0)).set (i := 1) b7 (by decide) (by decide) (.slice qa1 (P.rel.length + 1) qc1)).set (i := 2) b8 (by decide) (by decide) (.slice qa2 (P.b.length + 1) qc2)
                  have B9 : Below pb W5 (((R6.setCell ⟨pb, 0, none⟩ (.slice qa0 (P.rows.length + 1) qc0)).setCell ⟨pb, 1, none⟩ (.slice qa1 (P.rel.length + 1) qc1)).setCell ⟨pb, 2, none⟩ (.slice qa2 (P.b.length + 1) qc2)) := ((hP6.bel.setCell (p := ⟨pb, 0, none⟩) (Nat.le_refl _) _).setCell (p := ⟨pb, 1, none⟩) (Nat.le_refl _) _).setCell (p := ⟨pb, 2, none⟩) (Nat.le_refl _) _
                  have x9 : (((R6.setCell ⟨pb, 0, none⟩ (.slice qa0 (P.rows.length + 1) qc0)).setCell ⟨pb, 1, none⟩ (.slice qa1 (P.rel.length + 1) qc1)).setCell ⟨pb, 2, none⟩ (.slice qa2 (P.b.length + 1) qc2)).heap[vb]? = some (.cells #[.int .i64 v.f, .int .i64 v.t, .int .i64 v.lo, .int .i64 v.hi, .int .i64 v.wo] 48 (0, 0)) := by
                    rw [Below.heap_setCell _ _ _ _ HVP.out, Below.heap_setCell _ _ _ _ HVP.out, Below.heap_setCell _ _ _ _ HVP.out]
                    exact hP6.vbx
                  have s9 : pb ≤ (((R6.setCell ⟨pb, 0, none⟩ (.slice qa0 (P.rows.length + 1) qc0)).setCell ⟨pb, 1, none⟩ (.slice qa1 (P.rel.length + 1) qc1)).setCell ⟨pb, 2, none⟩ (.slice qa2 (P.b.length + 1) qc2)).heap.size := by simpa [World.setCell] using hP6.sz
                  clear hP6 b6 b7 b8 hHeld
                  refine wpAny_ready (rs := [19]) (by kernel_rfl) (by simp) ?_
                  refine AllReady.cons (o := _) rfl (fun Kc hKc => ?_) AllReady.nil
                  go_simp
                  refine hKc _ _ ?_
                  clear hKc Kc
                  (try simp only [List.getElem_toArray, List.getElem_cons_zero, List.getElem_cons_succ, Act.put, List.setIfInBounds_toArray, List.set_cons_zero, List.set_cons_succ])
                  refine wpAny_ready (rs := [20]) (by kernel_rfl) (by simp) ?_
                  refine AllReady.cons (o := _) rfl (fun Kc hKc => ?_) AllReady.nil
                  go_simp
                  refine hKc _ _ ?_
                  clear hKc Kc
                  (try simp only [List.getElem_toArray, List.getElem_cons_zero, List.getElem_cons_succ, Act.put, List.setIfInBounds_toArray, List.set_cons_zero, List.set_cons_succ])
                  refine wpAny_ready (rs := [21]) (by kernel_rfl) (by simp) ?_
                  refine AllReady.cons (o := _) rfl (fun Kc hKc => ?_) AllReady.nil
                  go_simp
                  refine hKc _ _ ?_
                  clear hKc Kc
                  (try simp only [List.getElem_toArray, List.getElem_cons_zero, List.getElem_cons_succ, Act.put, List.setIfInBounds_toArray, List.set_cons_zero, List.set_cons_succ])
                  refine wpAny_ready (rs := [22]) (by kernel_rfl) (by simp) ?_
                  refine AllReady.cons (o := _) rfl (fun Kc hKc => ?_) AllReady.nil
                  go_simp
                  refine hKc _ _ ?_
                  clear hKc Kc
                  (try simp only [List.getElem_toArray, List.getElem_cons_zero, List.getElem_cons_succ, Act.put, List.setIfInBounds_toArray, List.set_cons_zero, List.set_cons_succ])
                  refine wpAny_ready (rs := [23]) (by kernel_rfl) (by simp) ?_
                  refine AllReady.cons (o := _) rfl (fun Kc hKc => ?_) AllReady.nil
                  go_simp
                  refine hKc _ _ ?_
                  clear hKc Kc
                  (try simp only [List.getElem_toArray, List.getElem_cons_zero, List.getElem_cons_succ, Act.put, List.setIfInBounds_toArray, List.set_cons_zero, List.set_cons_succ])
                  refine wpAny_done (by kernel_rfl) ?_ _
                  refine NoPanic.normal ?_
                  clear c60 f60 c61 f61 c62 f62
                  generalize ((R6.setCell ⟨pb, 0, none⟩ (.slice qa0 (P.rows.length + 1) qc0)).setCell ⟨pb, 1, none⟩ (.slice qa1 (P.rel.length + 1) qc1)).setCell ⟨pb, 2, none⟩ (.slice qa2 (P.b.length + 1) qc2) = W9 at *
                  have hP9 : P3 32 48 W5 W9 pb vb _ _ _ _ _ _ _ _ := ⟨h9, b9, x9, B9, s9⟩
                  have hPA := hP9.alloc (Obj.cells #[.int .i64 v.wo] 3)
                  have q9 := Pd.new hP9 3 (.int .i64 v.wo)
                  have y3 := ibx b9 3 cv rfl
                  have y4 := ibx x9 4 (.int .i64 v.wo) rfl
                  clear h9 b9 x9 B9 s9 hP9
                  have HPA := hid hPA
                  have HQ9 := hid q9
                  have hownc : (W9.alloc (Obj.cells #[.int .i64 v.wo] 3)).ownsRow pb 3 1 cv P.c.length (intV P.c) := hPA.pv.c
                  clear hPA q9
                  go_wp2_with (first | (at_builtin; refine wpList_append_own_at _ rfl _ _ 26 rfl pb 3 i0 (.int .i64 0) 1 8 Try.underlying26 hi0 iz0 iz1 iz2 rfl (by decide) cv P.c.length (intV P.c) rfl hownc ⟨W9.heap.size, 0, none⟩ 1 1 [.int .i64 v.wo] rfl rfl HQ9.out.news (by intro u hu; simp at hu; subst hu; rfl) (by unfold maxLen; omega) (by omega) HPA.out.sz ?_) | fail)
                  intro vc WC oc hgc _ hatc
                  obtain ⟨qac, qcc, rfl⟩ := kown_form oc
                  have hpc := HPA.out.pv.push_c oc hgc (by rw [World.size_alloc]; exact hatc)
                  obtain ⟨bc1, bc2, bc3, bc4⟩ := HPA.out.kept hownc hgc (by decide) (by decide)
                  have w3 := ibx bc1 3 cv rfl
                  have w3f := free_at (L := [_, _, _, _]) bc1 3
                  have bcs := set_at (L := [_, _, _, _]) (k := 3) (v := .slice qac (P.c.length + 1) qcc) bc1
                  have hps := hpc.set (i := 3) bc1 (by decide) (by decide) (.slice qac (P.c.length + 1) qcc)
                  have bbs := bc3.setCell (p := ⟨pb, 3, none⟩) (Nat.le_refl _) (.slice qac (P.c.length + 1) qcc)
                  have HBX : Hid (Bx (WC.setCell ⟨pb, 3, none⟩ (.slice qac (P.c.length + 1) qcc)) W5 pb (P1 V (k + 1))) := hid ⟨_, _, _, _, _, by simpa using bcs, by rw [HPS.out]; exact hps, bbs, by simpa [World.setCell] using bc4⟩
                  clear oc hgc hatc hpc bc1 bc2 bc3 bc4 bcs hps bbs hownc HPA HQ9
                  go_wp2_with fail
                  go_roundw
                  case rel => exact ⟨k + 1, by omega, by go_num, HBX⟩
                  case measure => simp [intOf]; omega
          · go_simp
            refine hKc.out _ _ (HS.out _ (hP2.alloc _).box (hP2.alloc _).vbx) (fun hHeld => ?_)
            clear hKc Kc
            (try simp only [List.getElem_toArray, List.getElem_cons_zero, List.getElem_cons_succ, Act.put, List.setIfInBounds_toArray, List.set_cons_zero, List.set_cons_succ])
            have hP3 := hP2.alloc (Obj.cells #[.int .i64 (v.hi - v.lo)] 3)
            have p2_3 := Pd.new hP2 3 (.int .i64 (v.hi - v.lo))
            have p0_3 := p0_2.alloc (Obj.cells #[.int .i64 (v.hi - v.lo)] 3)
            have p1_3 := p1_2.alloc (Obj.cells #[.int .i64 (v.hi - v.lo)] 3)
            have io3 : IO (R2.alloc (Obj.cells #[.int .i64 (v.hi - v.lo)] 3)) pb (Value.slice (some ⟨vb + 1, 0, none⟩) V.length V.length) LU := World.ownsRow.alloc io2 _
            clear io2
            clear p0_2
            clear p1_2
            clear hP2
            generalize R2.alloc (Obj.cells #[.int .i64 (v.hi - v.lo)] 3) = R3 at *
            generalize R2.heap.size = g2 at *
            refine wpAnyH_ready (rs := [4]) (by kernel_rfl) (by simp) ?_
            refine AllReadyH.cons (o := _) rfl (fun Kc hKc => ?_) (AllReadyH.nil)
            · refine step_append_at rfl _ _ 30 rfl pb 26 j0 (.slice none 0 0) 1 24 Try.underlying30 hj0 jz0 jz1 jz2 rfl (by decide) rv P.rows.length vs rfl hP3.pv.rows ⟨g0, 0, none⟩ 1 1 [(Value.slice (some ⟨vb + 1, 0, none⟩) V.length V.length)] rfl rfl p0_3.news (by intro u hu; simp at hu; subst hu; rfl) (by unfold maxLen; omega) (by omega) hP3.sz ?_
              intro v0 R4 o0 hg0 hat0
              obtain ⟨qa0, qc0, rfl⟩ := kown_form o0
              have hP4 := hP3.pr (by decide) (by decide) (L := LU) io3 HD.out.1 HD.out.2.1 HD.out.2.2 o0 hg0
              clear io3
              have p1_4 := p1_3.gr hg0 hat0
              clear p1_3
              have p2_4 := p2_3.gr hg0 hat0
              clear p2_3
              clear p0_3 o0 hg0 hat0 hP3
              refine hKc.out _ _ (HS.out _ hP4.box hP4.vbx) (fun hHeld => ?_)
              clear hKc Kc
              (try simp only [List.getElem_toArray, List.getElem_cons_zero, List.getElem_cons_succ, Act.put, List.setIfInBounds_toArray, List.set_cons_zero, List.set_cons_succ])
              refine wpAnyH_take (i := 18) (v := ?_) rfl (by kernel_rfl) (by kernel_rfl) (by kernel_rfl) (fun _ _ _ h => h) (Or.inl ⟨by rfl, ?_⟩) (by assumption) ?_
              rotate_left
              · intro w hSw
                (try dsimp only at hSw)
                go_simp
                (try with_reducible rfl)
              (try simp only [List.getElem_toArray, List.getElem_cons_zero, List.getElem_cons_succ, Act.put, List.setIfInBounds_toArray, List.set_cons_zero, List.set_cons_succ])
              refine wpAnyH_ready (rs := [8]) (by kernel_rfl) (by simp) ?_
              refine AllReadyH.cons (o := _) rfl (fun Kc hKc => ?_) (AllReadyH.nil)
              · refine step_append_at rfl _ _ 26 rfl pb 3 i0 (.int .i64 0) 1 8 Try.underlying26 hi0 iz0 iz1 iz2 rfl (by decide) ev P.rel.length (intV P.rel) rfl hP4.pv.rel ⟨g1, 0, none⟩ 1 1 [.int .i64 (-1)] rfl rfl p1_4.news (by intro u hu; simp at hu; subst hu; rfl) (by unfold maxLen; omega) (by omega) hP4.sz ?_
                intro v1 R5 o1 hg1 hat1
                obtain ⟨qa1, qc1, rfl⟩ := kown_form o1
                have hP5 := hP4.pe (by decide) (by decide) o1 hg1 hat1
                have p2_5 := p2_4.ge hg1 hat1
                clear p2_4
                clear p1_4 o1 hg1 hat1 hP4
                refine hKc.out _ _ (HS.out _ hP5.box hP5.vbx) (fun hHeld => ?_)
                clear hKc Kc
                (try simp only [List.getElem_toArray, List.getElem_cons_zero, List.getElem_cons_succ, Act.put, List.setIfInBounds_toArray, List.set_cons_zero, List.set_cons_succ])
                refine wpAnyH_ready (rs := [17]) (by kernel_rfl) (by simp) ?_
                refine AllReadyH.cons (o := _) rfl (fun Kc hKc => ?_) (AllReadyH.nil)
                · refine step_append_at rfl _ _ 26 rfl pb 3 i0 (.int .i64 0) 1 8 Try.underlying26 hi0 iz0 iz1 iz2 rfl (by decide) bv P.b.length (intV P.b) rfl hP5.pv.b ⟨g2, 0, none⟩ 1 1 [.int .i64 (v.hi - v.lo)] rfl rfl p2_5.news (by intro u hu; simp at hu; subst hu; rfl) (by unfold maxLen; omega) (by omega) hP5.sz ?_
                  intro v2 R6 o2 hg2 hat2
                  obtain ⟨qa2, qc2, rfl⟩ := kown_form o2
                  have hP6 := hP5.pb_ (by decide) (by decide) o2 hg2 hat2
                  clear p2_5 o2 hg2 hat2 hP5
                  refine hKc.out _ _ (HS.out _ hP6.box hP6.vbx) (fun hHeld => ?_)
                  clear hKc Kc
                  (try simp only [List.getElem_toArray, List.getElem_cons_zero, List.getElem_cons_succ, Act.put, List.setIfInBounds_toArray, List.set_cons_zero, List.set_cons_succ])
                  refine wpAnyH_done (by kernel_rfl) ?_ _
                  intro r
                  have b6 := hP6.box
                  have b7 : (R6.setCell ⟨pb, 0, none⟩ (.slice qa0 (P.rows.length + 1) qc0)).heap[pb]? = some (.cells #[.slice qa0 (P.rows.length + 1) qc0, ev, bv, cv] 32 (0, 0)) := by simpa using set_at (L := [rv, ev, bv, cv]) (k := 0) (v := .slice qa0 (P.rows.length + 1) qc0) b6
                  have b8 : ((R6.setCell ⟨pb, 0, none⟩ (.slice qa0 (P.rows.length + 1) qc0)).setCell ⟨pb, 1, none⟩ (.slice qa1 (P.rel.length + 1) qc1)).heap[pb]? = some (.cells #[.slice qa0 (P.rows.length + 1) qc0, .slice qa1 (P.rel.length + 1) qc1, bv, cv] 32 (0, 0)) := by simpa using set_at (L := [.slice qa0 (P.rows.length + 1) qc0, ev, bv, cv]) (k := 1) (v := .slice qa1 (P.rel.length + 1) qc1) b7
                  have b9 : (((R6.setCell ⟨pb, 0, none⟩ (.slice qa0 (P.rows.length + 1) qc0)).setCell ⟨pb, 1, none⟩ (.slice qa1 (P.rel.length + 1) qc1)).setCell ⟨pb, 2, none⟩ (.slice qa2 (P.b.length + 1) qc2)).heap[pb]? = some (.cells #[.slice qa0 (P.rows.length + 1) qc0, .slice qa1 (P.rel.length + 1) qc1, .slice qa2 (P.b.length + 1) qc2, cv] 32 (0, 0)) := by simpa using set_at (L := [.slice qa0 (P.rows.length + 1) qc0, .slice qa1 (P.rel.length + 1) qc1, bv, cv]) (k := 2) (v := .slice qa2 (P.b.length + 1) qc2) b8
                  have c60 := ibx b6 0 rv rfl
                  have f60 := free_at (L := [rv, ev, bv, cv]) b6 0
                  have c61 := ibx b6 1 ev rfl
                  have f61 := free_at (L := [rv, ev, bv, cv]) b6 1
                  have c62 := ibx b6 2 bv rfl
                  have f62 := free_at (L := [rv, ev, bv, cv]) b6 2
                  have h9 := ((hP6.pv.set (i := 0) b6 (by decide) (by decide) (.slice qa0 (P.rows.length + 1) qc0)).set (i := 1) b7 (by decide) (by decide) (.slice qa1 (P.rel.length + 1) qc1)).set (i := 2) b8 (by decide) (by decide) (.slice qa2 (P.b.length + 1) qc2)
                  have B9 : Below pb W5 (((R6.setCell ⟨pb, 0, none⟩ (.slice qa0 (P.rows.length + 1) qc0)).setCell ⟨pb, 1, none⟩ (.slice qa1 (P.rel.length + 1) qc1)).setCell ⟨pb, 2, none⟩ (.slice qa2 (P.b.length + 1) qc2)) := ((hP6.bel.setCell (p := ⟨pb, 0, none⟩) (Nat.le_refl _) _).setCell (p := ⟨pb, 1, none⟩) (Nat.le_refl _) _).setCell (p := ⟨pb, 2, none⟩) (Nat.le_refl _) _
                  have x9 : (((R6.setCell ⟨pb, 0, none⟩ (.slice qa0 (P.rows.length + 1) qc0)).setCell ⟨pb, 1, none⟩ (.slice qa1 (P.rel.length + 1) qc1)).setCell ⟨pb, 2, none⟩ (.slice qa2 (P.b.length + 1) qc2)).heap[vb]? = some (.cells #[.int .i64 v.f, .int .i64 v.t, .int .i64 v.lo, .int .i64 v.hi, .int .i64 v.wo] 48 (0, 0)) := by
                    rw [Below.heap_setCell _ _ _ _ HVP.out, Below.heap_setCell _ _ _ _ HVP.out, Below.heap_setCell _ _ _ _ HVP.out]
                    exact hP6.vbx
                  have s9 : pb ≤ (((R6.setCell ⟨pb, 0, none⟩ (.slice qa0 (P.rows.length + 1) qc0)).setCell ⟨pb, 1, none⟩ (.slice qa1 (P.rel.length + 1) qc1)).setCell ⟨pb, 2, none⟩ (.slice qa2 (P.b.length + 1) qc2)).heap.size := by simpa [World.setCell] using hP6.sz
                  clear hP6 b6 b7 b8 hHeld
                  refine wpAny_ready (rs := [19]) (by kernel_rfl) (by simp) ?_
                  refine AllReady.cons (o := _) rfl (fun Kc hKc => ?_) AllReady.nil
                  go_simp
                  refine hKc _ _ ?_
                  clear hKc Kc
                  (try simp only [List.getElem_toArray, List.getElem_cons_zero, List.getElem_cons_succ, Act.put, List.setIfInBounds_toArray, List.set_cons_zero, List.set_cons_succ])
                  refine wpAny_ready (rs := [20]) (by kernel_rfl) (by simp) ?_
                  refine AllReady.cons (o := _) rfl (fun Kc hKc => ?_) AllReady.nil
                  go_simp
                  refine hKc _ _ ?_
                  clear hKc Kc
                  (try simp only [List.getElem_toArray, List.getElem_cons_zero, List.getElem_cons_succ, Act.put, List.setIfInBounds_toArray, List.set_cons_zero, List.set_cons_succ])
                  refine wpAny_ready (rs := [21]) (by kernel_rfl) (by simp) ?_
                  refine AllReady.cons (o := _) rfl (fun Kc hKc => ?_) AllReady.nil
                  go_simp
                  refine hKc _ _ ?_
                  clear hKc Kc
                  (try simp only [List.getElem_toArray, List.getElem_cons_zero, List.getElem_cons_succ, Act.put, List.setIfInBounds_toArray, List.set_cons_zero, List.set_cons_succ])
                  refine wpAny_ready (rs := [22]) (by kernel_rfl) (by simp) ?_
                  refine AllReady.cons (o := _) rfl (fun Kc hKc => ?_) AllReady.nil
                  go_simp
                  refine hKc _ _ ?_
                  clear hKc Kc
                  (try simp only [List.getElem_toArray, List.getElem_cons_zero, List.getElem_cons_succ, Act.put, List.setIfInBounds_toArray, List.set_cons_zero, List.set_cons_succ])
                  refine wpAny_ready (rs := [23]) (by kernel_rfl) (by simp) ?_
                  refine AllReady.cons (o := _) rfl (fun Kc hKc => ?_) AllReady.nil
                  go_simp
                  refine hKc _ _ ?_
                  clear hKc Kc
                  (try simp only [List.getElem_toArray, List.getElem_cons_zero, List.getElem_cons_succ, Act.put, List.setIfInBounds_toArray, List.set_cons_zero, List.set_cons_succ])
                  refine wpAny_done (by kernel_rfl) ?_ _
                  refine NoPanic.normal ?_
                  clear c60 f60 c61 f61 c62 f62
                  generalize ((R6.setCell ⟨pb, 0, none⟩ (.slice qa0 (P.rows.length + 1) qc0)).setCell ⟨pb, 1, none⟩ (.slice qa1 (P.rel.length + 1) qc1)).setCell ⟨pb, 2, none⟩ (.slice qa2 (P.b.length + 1) qc2) = W9 at *
                  have hP9 : P3 32 48 W5 W9 pb vb _ _ _ _ _ _ _ _ := ⟨h9, b9, x9, B9, s9⟩
                  have hPA := hP9.alloc (Obj.cells #[.int .i64 v.wo] 3)
                  have q9 := Pd.new hP9 3 (.int .i64 v.wo)
                  have y3 := ibx b9 3 cv rfl
                  have y4 := ibx x9 4 (.int .i64 v.wo) rfl
                  clear h9 b9 x9 B9 s9 hP9
                  have HPA := hid hPA
                  have HQ9 := hid q9
                  have hownc : (W9.alloc (Obj.cells #[.int .i64 v.wo] 3)).ownsRow pb 3 1 cv P.c.length (intV P.c) := hPA.pv.c
                  clear hPA q9
                  go_wp2_with (first | (at_builtin; refine wpList_append_own_at _ rfl _ _ 26 rfl pb 3 i0 (.int .i64 0) 1 8 Try.underlying26 hi0 iz0 iz1 iz2 rfl (by decide) cv P.c.length (intV P.c) rfl hownc ⟨W9.heap.size, 0, none⟩ 1 1 [.int .i64 v.wo] rfl rfl HQ9.out.news (by intro u hu; simp at hu; subst hu; rfl) (by unfold maxLen; omega) (by omega) HPA.out.sz ?_) | fail)
                  intro vc WC oc hgc _ hatc
                  obtain ⟨qac, qcc, rfl⟩ := kown_form oc
                  have hpc := HPA.out.pv.push_c oc hgc (by rw [World.size_alloc]; exact hatc)
                  obtain ⟨bc1, bc2, bc3, bc4⟩ := HPA.out.kept hownc hgc (by decide) (by decide)
                  have w3 := ibx bc1 3 cv rfl
                  have w3f := free_at (L := [_, _, _, _]) bc1 3
                  have bcs := set_at (L := [_, _, _, _]) (k := 3) (v := .slice qac (P.c.length + 1) qcc) bc1
                  have hps := hpc.set (i := 3) bc1 (by decide) (by decide) (.slice qac (P.c.length + 1) qcc)
                  have bbs := bc3.setCell (p := ⟨pb, 3, none⟩) (Nat.le_refl _) (.slice qac (P.c.length + 1) qcc)
                  have HBX : Hid (Bx (WC.setCell ⟨pb, 3, none⟩ (.slice qac (P.c.length + 1) qcc)) W5 pb (P1 V (k + 1))) := hid ⟨_, _, _, _, _, by simpa using bcs, by rw [HPS.out]; exact hps, bbs, by simpa [World.setCell] using bc4⟩
                  clear oc hgc hatc hpc bc1 bc2 bc3 bc4 bcs hps bbs hownc HPA HQ9
                  go_wp2_with fail
                  go_roundw
                  case rel => exact ⟨k + 1, by omega, by go_num, HBX⟩
                  case measure => simp [intOf]; omega
        · go_simp
          refine hKc.out _ _ (HS.out _ (hP1.alloc _).box (hP1.alloc _).vbx) (fun hHeld => ?_)
          clear hKc Kc
          (try simp only [List.getElem_toArray, List.getElem_cons_zero, List.getElem_cons_succ, Act.put, List.setIfInBounds_toArray, List.set_cons_zero, List.set_cons_succ])
          have hP2 := hP1.alloc (Obj.cells #[.int .i64 (v.hi - v.lo)] 3)
          have p2_2 := Pd.new hP1 3 (.int .i64 (v.hi - v.lo))
          have p0_2 := p0_1.alloc (Obj.cells #[.int .i64 (v.hi - v.lo)] 3)
          have io2 : IO (R1.alloc (Obj.cells #[.int .i64 (v.hi - v.lo)] 3)) pb (Value.slice (some ⟨vb + 1, 0, none⟩) V.length V.length) LU := World.ownsRow.alloc io1 _
          clear io1
          clear p0_1
          clear hP1
          generalize R1.alloc (Obj.cells #[.int .i64 (v.hi - v.lo)] 3) = R2 at *
          generalize R1.heap.size = g2 at *
          refine wpAnyH_ready (rs := [4, 7]) (by kernel_rfl) (by simp) ?_
          refine AllReadyH.cons (o := _) rfl (fun Kc hKc => ?_) (AllReadyH.cons (o := _) rfl (fun Kc hKc => ?_) (AllReadyH.nil))
          · refine step_append_at rfl _ _ 30 rfl pb 26 j0 (.slice none 0 0) 1 24 Try.underlying30 hj0 jz0 jz1 jz2 rfl (by decide) rv P.rows.length vs rfl hP2.pv.rows ⟨g0, 0, none⟩ 1 1 [(Value.slice (some ⟨vb + 1, 0, none⟩) V.length V.length)] rfl rfl p0_2.news (by intro u hu; simp at hu; subst hu; rfl) (by unfold maxLen; omega) (by omega) hP2.sz ?_
            intro v0 R3 o0 hg0 hat0
            obtain ⟨qa0, qc0, rfl⟩ := kown_form o0
            have hP3 := hP2.pr (by decide) (by decide) (L := LU) io2 HD.out.1 HD.out.2.1 HD.out.2.2 o0 hg0
            clear io2
            have p2_3 := p2_2.gr hg0 hat0
            clear p2_2
            clear p0_2 o0 hg0 hat0 hP2
            refine hKc.out _ _ (HS.out _ hP3.box hP3.vbx) (fun hHeld => ?_)
            clear hKc Kc
            (try simp only [List.getElem_toArray, List.getElem_cons_zero, List.getElem_cons_succ, Act.put, List.setIfInBounds_toArray, List.set_cons_zero, List.set_cons_succ])
            refine wpAnyH_take (i := 18) (v := ?_) rfl (by kernel_rfl) (by kernel_rfl) (by kernel_rfl) (fun _ _ _ h => h) (Or.inl ⟨by rfl, ?_⟩) (by assumption) ?_
            rotate_left
            · intro w hSw
              (try dsimp only at hSw)
              go_simp
              (try with_reducible rfl)
            (try simp only [List.getElem_toArray, List.getElem_cons_zero, List.getElem_cons_succ, Act.put, List.setIfInBounds_toArray, List.set_cons_zero, List.set_cons_succ])
            refine wpAnyH_ready (rs := [7]) (by kernel_rfl) (by simp) ?_
            refine AllReadyH.cons (o := _) rfl (fun Kc hKc => ?_) (AllReadyH.nil)
            · go_simp
              refine hKc.out _ _ (HS.out _ (hP3.alloc _).box (hP3.alloc _).vbx) (fun hHeld => ?_)
              clear hKc Kc
              (try simp only [List.getElem_toArray, List.getElem_cons_zero, List.getElem_cons_succ, Act.put, List.setIfInBounds_toArray, List.set_cons_zero, List.set_cons_succ])
              have hP4 := hP3.alloc (Obj.cells #[.int .i64 (-1)] 3)
              have p1_4 := Pd.new hP3 3 (.int .i64 (-1))
              have p2_4 := p2_3.alloc (Obj.cells #[.int .i64 (-1)] 3)
              clear p2_3
              clear hP3
              generalize R3.alloc (Obj.cells #[.int .i64 (-1)] 3) = R4 at *
              generalize R3.heap.size = g1 at *
              refine wpAnyH_ready (rs := [8]) (by kernel_rfl) (by simp) ?_
              refine AllReadyH.cons (o := _) rfl (fun Kc hKc => ?_) (AllReadyH.nil)
              · refine step_append_at rfl _ _ 26 rfl pb 3 i0 (.int .i64 0) 1 8 Try.underlying26 hi0 iz0 iz1 iz2 rfl (by decide) ev P.rel.length (intV P.rel) rfl hP4.pv.rel ⟨g1, 0, none⟩ 1 1 [.int .i64 (-1)] rfl rfl p1_4.news (by intro u hu; simp at hu; subst hu; rfl) (by unfold maxLen; omega) (by omega) hP4.sz ?_
                intro v1 R5 o1 hg1 hat1
                obtain ⟨qa1, qc1, rfl⟩ := kown_form o1
                have hP5 := hP4.pe (by decide) (by decide) o1 hg1 hat1
                have p2_5 := p2_4.ge hg1 hat1
                clear p2_4
                clear p1_4 o1 hg1 hat1 hP4
                refine hKc.out _ _ (HS.out _ hP5.box hP5.vbx) (fun hHeld => ?_)
                clear hKc Kc
                (try simp only [List.getElem_toArray, List.getElem_cons_zero, List.getElem_cons_succ, Act.put, List.setIfInBounds_toArray, List.set_cons_zero, List.set_cons_succ])
                refine wpAnyH_ready (rs := [17]) (by kernel_rfl) (by simp) ?_
                refine AllReadyH.cons (o := _) rfl (fun Kc hKc => ?_) (AllReadyH.nil)
                · refine step_append_at rfl _ _ 26 rfl pb 3 i0 (.int .i64 0) 1 8 Try.underlying26 hi0 iz0 iz1 iz2 rfl (by decide) bv P.b.length (intV P.b) rfl hP5.pv.b ⟨g2, 0, none⟩ 1 1 [.int .i64 (v.hi - v.lo)] rfl rfl p2_5.news (by intro u hu; simp at hu; subst hu; rfl) (by unfold maxLen; omega) (by omega) hP5.sz ?_
                  intro v2 R6 o2 hg2 hat2
                  obtain ⟨qa2, qc2, rfl⟩ := kown_form o2
                  have hP6 := hP5.pb_ (by decide) (by decide) o2 hg2 hat2
                  clear p2_5 o2 hg2 hat2 hP5
                  refine hKc.out _ _ (HS.out _ hP6.box hP6.vbx) (fun hHeld => ?_)
                  clear hKc Kc
                  (try simp only [List.getElem_toArray, List.getElem_cons_zero, List.getElem_cons_succ, Act.put, List.setIfInBounds_toArray, List.set_cons_zero, List.set_cons_succ])
                  refine wpAnyH_done (by kernel_rfl) ?_ _
                  intro r
                  have b6 := hP6.box
                  have b7 : (R6.setCell ⟨pb, 0, none⟩ (.slice qa0 (P.rows.length + 1) qc0)).heap[pb]? = some (.cells #[.slice qa0 (P.rows.length + 1) qc0, ev, bv, cv] 32 (0, 0)) := by simpa using set_at (L := [rv, ev, bv, cv]) (k := 0) (v := .slice qa0 (P.rows.length + 1) qc0) b6
                  have b8 : ((R6.setCell ⟨pb, 0, none⟩ (.slice qa0 (P.rows.length + 1) qc0)).setCell ⟨pb, 1, none⟩ (.slice qa1 (P.rel.length + 1) qc1)).heap[pb]? = some (.cells #[.slice qa0 (P.rows.length + 1) qc0, .slice qa1 (P.rel.length + 1) qc1, bv, cv] 32 (0, 0)) := by simpa using set_at (L := [.slice qa0 (P.rows.length + 1) qc0, ev, bv, cv]) (k := 1) (v := .slice qa1 (P.rel.length + 1) qc1) b7
                  have b9 : (((R6.setCell ⟨pb, 0, none⟩ (.slice qa0 (P.rows.length + 1) qc0)).setCell ⟨pb, 1, none⟩ (.slice qa1 (P.rel.length + 1) qc1)).setCell ⟨pb, 2, none⟩ (.slice qa2 (P.b.length + 1) qc2)).heap[pb]? = some (.cells #[.slice qa0 (P.rows.length + 1) qc0, .slice qa1 (P.rel.length + 1) qc1, .slice qa2 (P.b.length + 1) qc2, cv] 32 (0, 0)) := by simpa using set_at (L := [.slice qa0 (P.rows.length + 1) qc0, .slice qa1 (P.rel.length + 1) qc1, bv, cv]) (k := 2) (v := .slice qa2 (P.b.length + 1) qc2) b8
                  have c60 := ibx b6 0 rv rfl
                  have f60 := free_at (L := [rv, ev, bv, cv]) b6 0
                  have c61 := ibx b6 1 ev rfl
                  have f61 := free_at (L := [rv, ev, bv, cv]) b6 1
                  have c62 := ibx b6 2 bv rfl
                  have f62 := free_at (L := [rv, ev, bv, cv]) b6 2
                  have h9 := ((hP6.pv.set (i := 0) b6 (by decide) (by decide) (.slice qa0 (P.rows.length + 1) qc0)).set (i := 1) b7 (by decide) (by decide) (.slice qa1 (P.rel.length + 1) qc1)).set (i := 2) b8 (by decide) (by decide) (.slice qa2 (P.b.length + 1) qc2)
                  have B9 : Below pb W5 (((R6.setCell ⟨pb, 0, none⟩ (.slice qa0 (P.rows.length + 1) qc0)).setCell ⟨pb, 1, none⟩ (.slice qa1 (P.rel.length + 1) qc1)).setCell ⟨pb, 2, none⟩ (.slice qa2 (P.b.length + 1) qc2)) := ((hP6.bel.setCell (p := ⟨pb, 0, none⟩) (Nat.le_refl _) _).setCell (p := ⟨pb, 1, none⟩) (Nat.le_refl _) _).setCell (p := ⟨pb, 2, none⟩) (Nat.le_refl _) _
                  have x9 : (((R6.setCell ⟨pb, 0, none⟩ (.slice qa0 (P.rows.length + 1) qc0)).setCell ⟨pb, 1, none⟩ (.slice qa1 (P.rel.length + 1) qc1)).setCell ⟨pb, 2, none⟩ (.slice qa2 (P.b.length + 1) qc2)).heap[vb]? = some (.cells #[.int .i64 v.f, .int .i64 v.t, .int .i64 v.lo, .int .i64 v.hi, .int .i64 v.wo] 48 (0, 0)) := by
                    rw [Below.heap_setCell _ _ _ _ HVP.out, Below.heap_setCell _ _ _ _ HVP.out, Below.heap_setCell _ _ _ _ HVP.out]
                    exact hP6.vbx
                  have s9 : pb ≤ (((R6.setCell ⟨pb, 0, none⟩ (.slice qa0 (P.rows.length + 1) qc0)).setCell ⟨pb, 1, none⟩ (.slice qa1 (P.rel.length + 1) qc1)).setCell ⟨pb, 2, none⟩ (.slice qa2 (P.b.length + 1) qc2)).heap.size := by simpa [World.setCell] using hP6.sz
                  clear hP6 b6 b7 b8 hHeld
                  refine wpAny_ready (rs := [19]) (by kernel_rfl) (by simp) ?_
                  refine AllReady.cons (o := _) rfl (fun Kc hKc => ?_) AllReady.nil
                  go_simp
                  refine hKc _ _ ?_
                  clear hKc Kc
                  (try simp only [List.getElem_toArray, List.getElem_cons_zero, List.getElem_cons_succ, Act.put, List.setIfInBounds_toArray, List.set_cons_zero, List.set_cons_succ])
                  refine wpAny_ready (rs := [20]) (by kernel_rfl) (by simp) ?_
                  refine AllReady.cons (o := _) rfl (fun Kc hKc => ?_) AllReady.nil
                  go_simp
                  refine hKc _ _ ?_
                  clear hKc Kc
                  (try simp only [List.getElem_toArray, List.getElem_cons_zero, List.getElem_cons_succ, Act.put, List.setIfInBounds_toArray, List.set_cons_zero, List.set_cons_succ])
                  refine wpAny_ready (rs := [21]) (by kernel_rfl) (by simp) ?_
                  refine AllReady.cons (o := _) rfl (fun Kc hKc => ?_) AllReady.nil
                  go_simp
                  refine hKc _ _ ?_
                  clear hKc Kc
                  (try simp only [List.getElem_toArray, List.getElem_cons_zero, List.getElem_cons_succ, Act.put, List.setIfInBounds_toArray, List.set_cons_zero, List.set_cons_succ])
                  refine wpAny_ready (rs := [22]) (by kernel_rfl) (by simp) ?_
                  refine AllReady.cons (o := _) rfl (fun Kc hKc => ?_) AllReady.nil
                  go_simp
                  refine hKc _ _ ?_
                  clear hKc Kc
                  (try simp only [List.getElem_toArray, List.getElem_cons_zero, List.getElem_cons_succ, Act.put, List.setIfInBounds_toArray, List.set_cons_zero, List.set_cons_succ])
                  refine wpAny_ready (rs := [23]) (by kernel_rfl) (by simp) ?_
                  refine AllReady.cons (o := _) rfl (fun Kc hKc => ?_) AllReady.nil
                  go_simp
                  refine hKc _ _ ?_
                  clear hKc Kc
                  (try simp only [List.getElem_toArray, List.getElem_cons_zero, List.getElem_cons_succ, Act.put, List.setIfInBounds_toArray, List.set_cons_zero, List.set_cons_succ])
                  refine wpAny_done (by kernel_rfl) ?_ _
                  refine NoPanic.normal ?_
                  clear c60 f60 c61 f61 c62 f62
                  generalize ((R6.setCell ⟨pb, 0, none⟩ (.slice qa0 (P.rows.length + 1) qc0)).setCell ⟨pb, 1, none⟩ (.slice qa1 (P.rel.length + 1) qc1)).setCell ⟨pb, 2, none⟩ (.slice qa2 (P.b.length + 1) qc2) = W9 at *
                  have hP9 : P3 32 48 W5 W9 pb vb _ _ _ _ _ _ _ _ := ⟨h9, b9, x9, B9, s9⟩
                  have hPA := hP9.alloc (Obj.cells #[.int .i64 v.wo] 3)
                  have q9 := Pd.new hP9 3 (.int .i64 v.wo)
                  have y3 := ibx b9 3 cv rfl
                  have y4 := ibx x9 4 (.int .i64 v.wo) rfl
                  clear h9 b9 x9 B9 s9 hP9
                  have HPA := hid hPA
                  have HQ9 := hid q9
                  have hownc : (W9.alloc (Obj.cells #[.int .i64 v.wo] 3)).ownsRow pb 3 1 cv P.c.length (intV P.c) := hPA.pv.c
                  clear hPA q9
                  go_wp2_with (first | (at_builtin; refine wpList_append_own_at _ rfl _ _ 26 rfl pb 3 i0 (.int .i64 0) 1 8 Try.underlying26 hi0 iz0 iz1 iz2 rfl (by decide) cv P.c.length (intV P.c) rfl hownc ⟨W9.heap.size, 0, none⟩ 1 1 [.int .i64 v.wo] rfl rfl HQ9.out.news (by intro u hu; simp at hu; subst hu; rfl) (by unfold maxLen; omega) (by omega) HPA.out.sz ?_) | fail)
                  intro vc WC oc hgc _ hatc
                  obtain ⟨qac, qcc, rfl⟩ := kown_form oc
                  have hpc := HPA.out.pv.push_c oc hgc (by rw [World.size_alloc]; exact hatc)
                  obtain ⟨bc1, bc2, bc3, bc4⟩ := HPA.out.kept hownc hgc (by decide) (by decide)
                  have w3 := ibx bc1 3 cv rfl
                  have w3f := free_at (L := [_, _, _, _]) bc1 3
                  have bcs := set_at (L := [_, _, _, _]) (k := 3) (v := .slice qac (P.c.length + 1) qcc) bc1
                  have hps := hpc.set (i := 3) bc1 (by decide) (by decide) (.slice qac (P.c.length + 1) qcc)
                  have bbs := bc3.setCell (p := ⟨pb, 3, none⟩) (Nat.le_refl _) (.slice qac (P.c.length + 1) qcc)
                  have HBX : Hid (Bx (WC.setCell ⟨pb, 3, none⟩ (.slice qac (P.c.length + 1) qcc)) W5 pb (P1 V (k + 1))) := hid ⟨_, _, _, _, _, by simpa using bcs, by rw [HPS.out]; exact hps, bbs, by simpa [World.setCell] using bc4⟩
                  clear oc hgc hatc hpc bc1 bc2 bc3 bc4 bcs hps bbs hownc HPA HQ9
                  go_wp2_with fail
                  go_roundw
                  case rel => exact ⟨k + 1, by omega, by go_num, HBX⟩
                  case measure => simp [intOf]; omega
          · go_simp
            refine hKc.out _ _ (HS.out _ (hP2.alloc _).box (hP2.alloc _).vbx) (fun hHeld => ?_)
            clear hKc Kc
            (try simp only [List.getElem_toArray, List.getElem_cons_zero, List.getElem_cons_succ, Act.put, List.setIfInBounds_toArray, List.set_cons_zero, List.set_cons_succ])
            have hP3 := hP2.alloc (Obj.cells #[.int .i64 (-1)] 3)
            have p1_3 := Pd.new hP2 3 (.int .i64 (-1))
            have p0_3 := p0_2.alloc (Obj.cells #[.int .i64 (-1)] 3)
            have p2_3 := p2_2.alloc (Obj.cells #[.int .i64 (-1)] 3)
            have io3 : IO (R2.alloc (Obj.cells #[.int .i64 (-1)] 3)) pb (Value.slice (some ⟨vb + 1, 0, none⟩) V.length V.length) LU := World.ownsRow.alloc io2 _
            clear io2
            clear p0_2
            clear p2_2
            clear hP2
            generalize R2.alloc (Obj.cells #[.int .i64 (-1)] 3) = R3 at *
            generalize R2.heap.size = g1 at *
            refine wpAnyH_ready (rs := [4]) (by kernel_rfl) (by simp) ?_
            refine AllReadyH.cons (o := _) rfl (fun Kc hKc => ?_) (AllReadyH.nil)
            · refine step_append_at rfl _ _ 30 rfl pb 26 j0 (.slice none 0 0) 1 24 Try.underlying30 hj0 jz0 jz1 jz2 rfl (by decide) rv P.rows.length vs rfl hP3.pv.rows ⟨g0, 0, none⟩ 1 1 [(Value.slice (some ⟨vb + 1, 0, none⟩) V.length V.length)] rfl rfl p0_3.news (by intro u hu; simp at hu; subst hu; rfl) (by unfold maxLen; omega) (by omega) hP3.sz ?_
              intro v0 R4 o0 hg0 hat0
              obtain ⟨qa0, qc0, rfl⟩ := kown_form o0
              have hP4 := hP3.pr (by decide) (by decide) (L := LU) io3 HD.out.1 HD.out.2.1 HD.out.2.2 o0 hg0
              clear io3
              have p1_4 := p1_3.gr hg0 hat0
              clear p1_3
              have p2_4 := p2_3.gr hg0 hat0
              clear p2_3
              clear p0_3 o0 hg0 hat0 hP3
              refine hKc.out _ _ (HS.out _ hP4.box hP4.vbx) (fun hHeld => ?_)
              clear hKc Kc
              (try simp only [List.getElem_toArray, List.getElem_cons_zero, List.getElem_cons_succ, Act.put, List.setIfInBounds_toArray, List.set_cons_zero, List.set_cons_succ])
              refine wpAnyH_take (i := 18) (v := ?_) rfl (by kernel_rfl) (by kernel_rfl) (by kernel_rfl) (fun _ _ _ h => h) (Or.inl ⟨by rfl, ?_⟩) (by assumption) ?_
              rotate_left
              · intro w hSw
                (try dsimp only at hSw)
                go_simp
                (try with_reducible rfl)
              (try simp only [List.getElem_toArray, List.getElem_cons_zero, List.getElem_cons_succ, Act.put, List.setIfInBounds_toArray, List.set_cons_zero, List.set_cons_succ])
              refine wpAnyH_ready (rs := [8]) (by kernel_rfl) (by simp) ?_
              refine AllReadyH.cons (o := _) rfl (fun Kc hKc => ?_) (AllReadyH.nil)
              · refine step_append_at rfl _ _ 26 rfl pb 3 i0 (.int .i64 0) 1 8 Try.underlying26 hi0 iz0 iz1 iz2 rfl (by decide) ev P.rel.length (intV P.rel) rfl hP4.pv.rel ⟨g1, 0, none⟩ 1 1 [.int .i64 (-1)] rfl rfl p1_4.news (by intro u hu; simp at hu; subst hu; rfl) (by unfold maxLen; omega) (by omega) hP4.sz ?_
                intro v1 R5 o1 hg1 hat1
                obtain ⟨qa1, qc1, rfl⟩ := kown_form o1
                have hP5 := hP4.pe (by decide) (by decide) o1 hg1 hat1
                have p2_5 := p2_4.ge hg1 hat1
                clear p2_4
                clear p1_4 o1 hg1 hat1 hP4
                refine hKc.out _ _ (HS.out _ hP5.box hP5.vbx) (fun hHeld => ?_)
                clear hKc Kc
                (try simp only [List.getElem_toArray, List.getElem_cons_zero, List.getElem_cons_succ, Act.put, List.setIfInBounds_toArray, List.set_cons_zero, List.set_cons_succ])
                refine wpAnyH_ready (rs := [17]) (by kernel_rfl) (by simp) ?_
                refine AllReadyH.cons (o := _) rfl (fun Kc hKc => ?_) (AllReadyH.nil)
                · refine step_append_at rfl _ _ 26 rfl pb 3 i0 (.int .i64 0) 1 8 Try.underlying26 hi0 iz0 iz1 iz2 rfl (by decide) bv P.b.length (intV P.b) rfl hP5.pv.b ⟨g2, 0, none⟩ 1 1 [.int .i64 (v.hi - v.lo)] rfl rfl p2_5.news (by intro u hu; simp at hu; subst hu; rfl) (by unfold maxLen; omega) (by omega) hP5.sz ?_
                  intro v2 R6 o2 hg2 hat2
                  obtain ⟨qa2, qc2, rfl⟩ := kown_form o2
                  have hP6 := hP5.pb_ (by decide) (by decide) o2 hg2 hat2
                  clear p2_5 o2 hg2 hat2 hP5
                  refine hKc.out _ _ (HS.out _ hP6.box hP6.vbx) (fun hHeld => ?_)
                  clear hKc Kc
                  (try simp only [List.getElem_toArray, List.getElem_cons_zero, List.getElem_cons_succ, Act.put, List.setIfInBounds_toArray, List.set_cons_zero, List.set_cons_succ])
                  refine wpAnyH_done (by kernel_rfl) ?_ _
                  intro r
                  have b6 := hP6.box
                  have b7 : (R6.setCell ⟨pb, 0, none⟩ (.slice qa0 (P.rows.length + 1) qc0)).heap[pb]? = some (.cells #[.slice qa0 (P.rows.length + 1) qc0, ev, bv, cv] 32 (0, 0)) := by simpa using set_at (L := [rv, ev, bv, cv]) (k := 0) (v := .slice qa0 (P.rows.length + 1) qc0) b6
                  have b8 : ((R6.setCell ⟨pb, 0, none⟩ (.slice qa0 (P.rows.length + 1) qc0)).setCell ⟨pb, 1, none⟩ (.slice qa1 (P.rel.length + 1) qc1)).heap[pb]? = some (.cells #[.slice qa0 (P.rows.length + 1) qc0, .slice qa1 (P.rel.length + 1) qc1, bv, cv] 32 (0, 0)) := by simpa using set_at (L := [.slice qa0 (P.rows.length + 1) qc0, ev, bv, cv]) (k := 1) (v := .slice qa1 (P.rel.length + 1) qc1) b7
                  have b9 : (((R6.setCell ⟨pb, 0, none⟩ (.slice qa0 (P.rows.length + 1) qc0)).setCell ⟨pb, 1, none⟩ (.slice qa1 (P.rel.length + 1) qc1)).setCell ⟨pb, 2, none⟩ (.slice qa2 (P.b.length + 1) qc2)).heap[pb]? = some (.cells #[.slice qa0 (P.rows.length + 1) qc0, .slice qa1 (P.rel.length + 1) qc1, .slice qa2 (P.b.length + 1) qc2, cv] 32 (0, 0)) := by simpa using set_at (L := [.slice qa0 (P.rows.length + 1) qc0, .slice qa1 (P.rel.length + 1) qc1, bv, cv]) (k := 2) (v := .slice qa2 (P.b.length + 1) qc2) b8
                  have c60 := ibx b6 0 rv rfl
                  have f60 := free_at (L := [rv, ev, bv, cv]) b6 0
                  have c61 := ibx b6 1 ev rfl
                  have f61 := free_at (L := [rv, ev, bv, cv]) b6 1
                  have c62 := ibx b6 2 bv rfl
                  have f62 := free_at (L := [rv, ev, bv, cv]) b6 2
                  have h9 := ((hP6.pv.set (i := 0) b6 (by decide) (by decide) (.slice qa0 (P.rows.length + 1) qc0)).set (i := 1) b7 (by decide) (by decide) (.slice qa1 (P.rel.length + 1) qc1)).set (i := 2) b8 (by decide) (by decide) (.slice qa2 (P.b.length + 1) qc2)
                  have B9 : Below pb W5 (((R6.setCell ⟨pb, 0, none⟩ (.slice qa0 (P.rows.length + 1) qc0)).setCell ⟨pb, 1, none⟩ (.slice qa1 (P.rel.length + 1) qc1)).setCell ⟨pb, 2, none⟩ (.slice qa2 (P.b.length + 1) qc2)) := ((hP6.bel.setCell (p := ⟨pb, 0, none⟩) (Nat.le_refl _) _).setCell (p := ⟨pb, 1, none⟩) (Nat.le_refl _) _).setCell (p := ⟨pb, 2, none⟩) (Nat.le_refl _) _
                  have x9 : (((R6.setCell ⟨pb, 0, none⟩ (.slice qa0 (P.rows.length + 1) qc0)).setCell ⟨pb, 1, none⟩ (.slice qa1 (P.rel.length + 1) qc1)).setCell ⟨pb, 2, none⟩ (.slice qa2 (P.b.length + 1) qc2)).heap[vb]? = some (.cells #[.int .i64 v.f, .int .i64 v.t, .int .i64 v.lo, .int .i64 v.hi, .int .i64 v.wo] 48 (0, 0)) := by
                    rw [Below.heap_setCell _ _ _ _ HVP.out, Below.heap_setCell _ _ _ _ HVP.out, Below.heap_setCell _ _ _ _ HVP.out]
                    exact hP6.vbx
                  have s9 : pb ≤ (((R6.setCell ⟨pb, 0, none⟩ (.slice qa0 (P.rows.length + 1) qc0)).setCell ⟨pb, 1, none⟩ (.slice qa1 (P.rel.length + 1) qc1)).setCell ⟨pb, 2, none⟩ (.slice qa2 (P.b.length + 1) qc2)).heap.size := by simpa [World.setCell] using hP6.sz
                  clear hP6 b6 b7 b8 hHeld
                  refine wpAny_ready (rs := [19]) (by kernel_rfl) (by simp) ?_
                  refine AllReady.cons (o := _) rfl (fun Kc hKc => ?_) AllReady.nil
                  go_simp
                  refine hKc _ _ ?_
                  clear hKc Kc
                  (try simp only [List.getElem_toArray, List.getElem_cons_zero, List.getElem_cons_succ, Act.put, List.setIfInBounds_toArray, List.set_cons_zero, List.set_cons_succ])
                  refine wpAny_ready (rs := [20]) (by kernel_rfl) (by simp) ?_
                  refine AllReady.cons (o := _) rfl (fun Kc hKc => ?_) AllReady.nil
                  go_simp
                  refine hKc _ _ ?_
                  clear hKc Kc
                  (try simp only [List.getElem_toArray, List.getElem_cons_zero, List.getElem_cons_succ, Act.put, List.setIfInBounds_toArray, List.set_cons_zero, List.set_cons_succ])
                  refine wpAny_ready (rs := [21]) (by kernel_rfl) (by simp) ?_
                  refine AllReady.cons (o := _) rfl (fun Kc hKc => ?_) AllReady.nil
                  go_simp
                  refine hKc _ _ ?_
                  clear hKc Kc
                  (try simp only [List.getElem_toArray, List.getElem_cons_zero, List.getElem_cons_succ, Act.put, List.setIfInBounds_toArray, List.set_cons_zero, List.set_cons_succ])
                  refine wpAny_ready (rs := [22]) (by kernel_rfl) (by simp) ?_
                  refine AllReady.cons (o := _) rfl (fun Kc hKc => ?_) AllReady.nil
                  go_simp
                  refine hKc _ _ ?_
                  clear hKc Kc
                  (try simp only [List.getElem_toArray, List.getElem_cons_zero, List.getElem_cons_succ, Act.put, List.setIfInBounds_toArray, List.set_cons_zero, List.set_cons_succ])
                  refine wpAny_ready (rs := [23]) (by kernel_rfl) (by simp) ?_
                  refine AllReady.cons (o := _) rfl (fun Kc hKc => ?_) AllReady.nil
                  go_simp
                  refine hKc _ _ ?_
                  clear hKc Kc
                  (try simp only [List.getElem_toArray, List.getElem_cons_zero, List.getElem_cons_succ, Act.put, List.setIfInBounds_toArray, List.set_cons_zero, List.set_cons_succ])
                  refine wpAny_done (by kernel_rfl) ?_ _
                  refine NoPanic.normal ?_
                  clear c60 f60 c61 f61 c62 f62
                  generalize ((R6.setCell ⟨pb, 0, none⟩ (.slice qa0 (P.rows.length + 1) qc0)).setCell ⟨pb, 1, none⟩ (.slice qa1 (P.rel.length + 1) qc1)).setCell ⟨pb, 2, none⟩ (.slice qa2 (P.b.length + 1) qc2) = W9 at *
                  have hP9 : P3 32 48 W5 W9 pb vb _ _ _ _ _ _ _ _ := ⟨h9, b9, x9, B9, s9⟩
                  have hPA := hP9.alloc (Obj.cells #[.int .i64 v.wo] 3)
                  have q9 := Pd.new hP9 3 (.int .i64 v.wo)
                  have y3 := ibx b9 3 cv rfl
                  have y4 := ibx x9 4 (.int .i64 v.wo) rfl
                  clear h9 b9 x9 B9 s9 hP9
                  have HPA := hid hPA
                  have HQ9 := hid q9
                  have hownc : (W9.alloc (Obj.cells #[.int .i64 v.wo] 3)).ownsRow pb 3 1 cv P.c.length (intV P.c) := hPA.pv.c
                  clear hPA q9
                  go_wp2_with (first | (at_builtin; refine wpList_append_own_at _ rfl _ _ 26 rfl pb 3 i0 (.int .i64 0) 1 8 Try.underlying26 hi0 iz0 iz1 iz2 rfl (by decide) cv P.c.length (intV P.c) rfl hownc ⟨W9.heap.size, 0, none⟩ 1 1 [.int .i64 v.wo] rfl rfl HQ9.out.news (by intro u hu; simp at hu; subst hu; rfl) (by unfold maxLen; omega) (by omega) HPA.out.sz ?_) | fail)
                  intro vc WC oc hgc _ hatc
                  obtain ⟨qac, qcc, rfl⟩ := kown_form oc
                  have hpc := HPA.out.pv.push_c oc hgc (by rw [World.size_alloc]; exact hatc)
                  obtain ⟨bc1, bc2, bc3, bc4⟩ := HPA.out.kept hownc hgc (by decide) (by decide)
                  have w3 := ibx bc1 3 cv rfl
                  have w3f := free_at (L := [_, _, _, _]) bc1 3
                  have bcs := set_at (L := [_, _, _, _]) (k := 3) (v := .slice qac (P.c.length + 1) qcc) bc1
                  have hps := hpc.set (i := 3) bc1 (by decide) (by decide) (.slice qac (P.c.length + 1) qcc)
                  have bbs := bc3.setCell (p := ⟨pb, 3, none⟩) (Nat.le_refl _) (.slice qac (P.c.length + 1) qcc)
                  have HBX : Hid (Bx (WC.setCell ⟨pb, 3, none⟩ (.slice qac (P.c.length + 1) qcc)) W5 pb (P1 V (k + 1))) := hid ⟨_, _, _, _, _, by simpa using bcs, by rw [HPS.out]; exact hps, bbs, by simpa [World.setCell] using bc4⟩
                  clear oc hgc hatc hpc bc1 bc2 bc3 bc4 bcs hps bbs hownc HPA HQ9
                  go_wp2_with fail
                  go_roundw
                  case rel => exact ⟨k + 1, by omega, by go_num, HBX⟩
                  case measure => simp [intOf]; omega
      · go_simp
        refine hKc.out _ _ (HS.out _ (hP0.alloc _).box (hP0.alloc _).vbx) (fun hHeld => ?_)
        clear hKc Kc
        (try simp only [List.getElem_toArray, List.getElem_cons_zero, List.getElem_cons_succ, Act.put, List.setIfInBounds_toArray, List.set_cons_zero, List.set_cons_succ])
        have hP1 := hP0.alloc (Obj.cells #[.int .i64 (-1)] 3)
        have p1_1 := Pd.new hP0 3 (.int .i64 (-1))
        have io1 : IO (R0.alloc (Obj.cells #[.int .i64 (-1)] 3)) pb (Value.slice (some ⟨vb + 1, 0, none⟩) V.length V.length) LU := World.ownsRow.alloc io0 _
        clear io0
        clear hP0
        generalize R0.alloc (Obj.cells #[.int .i64 (-1)] 3) = R1 at *
        generalize R0.heap.size = g1 at *
        refine wpAnyH_ready (rs := [3, 16]) (by kernel_rfl) (by simp) ?_
        refine AllReadyH.cons (o := _) rfl (fun Kc hKc => ?_) (AllReadyH.cons (o := _) rfl (fun Kc hKc => ?_) (AllReadyH.nil))
        · go_simp
          refine hKc.out _ _ (HS.out _ (hP1.alloc _).box (hP1.alloc _).vbx) (fun hHeld => ?_)
          clear hKc Kc
          (try simp only [List.getElem_toArray, List.getElem_cons_zero, List.getElem_cons_succ, Act.put, List.setIfInBounds_toArray, List.set_cons_zero, List.set_cons_succ])
          have hP2 := hP1.alloc (Obj.cells #[(Value.slice (some ⟨vb + 1, 0, none⟩) V.length V.length)] 26)
          have p0_2 := Pd.new hP1 26 ((Value.slice (some ⟨vb + 1, 0, none⟩) V.length V.length))
          have p1_2 := p1_1.alloc (Obj.cells #[(Value.slice (some ⟨vb + 1, 0, none⟩) V.length V.length)] 26)
          have io2 : IO (R1.alloc (Obj.cells #[(Value.slice (some ⟨vb + 1, 0, none⟩) V.length V.length)] 26)) pb (Value.slice (some ⟨vb + 1, 0, none⟩) V.length V.length) LU := World.ownsRow.alloc io1 _
          clear io1
          clear p1_1
          clear hP1
          generalize R1.alloc (Obj.cells #[(Value.slice (some ⟨vb + 1, 0, none⟩) V.length V.length)] 26) = R2 at *
          generalize R1.heap.size = g0 at *
          refine wpAnyH_ready (rs := [4, 16]) (by kernel_rfl) (by simp) ?_
          refine AllReadyH.cons (o := _) rfl (fun Kc hKc => ?_) (AllReadyH.cons (o := _) rfl (fun Kc hKc => ?_) (AllReadyH.nil))
          · refine step_append_at rfl _ _ 30 rfl pb 26 j0 (.slice none 0 0) 1 24 Try.underlying30 hj0 jz0 jz1 jz2 rfl (by decide) rv P.rows.length vs rfl hP2.pv.rows ⟨g0, 0, none⟩ 1 1 [(Value.slice (some ⟨vb + 1, 0, none⟩) V.length V.length)] rfl rfl p0_2.news (by intro u hu; simp at hu; subst hu; rfl) (by unfold maxLen; omega) (by omega) hP2.sz ?_
            intro v0 R3 o0 hg0 hat0
            obtain ⟨qa0, qc0, rfl⟩ := kown_form o0
            have hP3 := hP2.pr (by decide) (by decide) (L := LU) io2 HD.out.1 HD.out.2.1 HD.out.2.2 o0 hg0
            clear io2
            have p1_3 := p1_2.gr hg0 hat0
            clear p1_2
            clear p0_2 o0 hg0 hat0 hP2
            refine hKc.out _ _ (HS.out _ hP3.box hP3.vbx) (fun hHeld => ?_)
            clear hKc Kc
            (try simp only [List.getElem_toArray, List.getElem_cons_zero, List.getElem_cons_succ, Act.put, List.setIfInBounds_toArray, List.set_cons_zero, List.set_cons_succ])
            refine wpAnyH_take (i := 18) (v := ?_) rfl (by kernel_rfl) (by kernel_rfl) (by kernel_rfl) (fun _ _ _ h => h) (Or.inl ⟨by rfl, ?_⟩) (by assumption) ?_
            rotate_left
            · intro w hSw
              (try dsimp only at hSw)
              go_simp
              (try with_reducible rfl)
            (try simp only [List.getElem_toArray, List.getElem_cons_zero, List.getElem_cons_succ, Act.put, List.setIfInBounds_toArray, List.set_cons_zero, List.set_cons_succ])
            refine wpAnyH_ready (rs := [8, 16]) (by kernel_rfl) (by simp) ?_
            refine AllReadyH.cons (o := _) rfl (fun Kc hKc => ?_) (AllReadyH.cons (o := _) rfl (fun Kc hKc => ?_) (AllReadyH.nil))
            · refine step_append_at rfl _ _ 26 rfl pb 3 i0 (.int .i64 0) 1 8 Try.underlying26 hi0 iz0 iz1 iz2 rfl (by decide) ev P.rel.length (intV P.rel) rfl hP3.pv.rel ⟨g1, 0, none⟩ 1 1 [.int .i64 (-1)] rfl rfl p1_3.news (by intro u hu; simp at hu; subst hu; rfl) (by unfold maxLen; omega) (by omega) hP3.sz ?_
              intro v1 R4 o1 hg1 hat1
              obtain ⟨qa1, qc1, rfl⟩ := kown_form o1
              have hP4 := hP3.pe (by decide) (by decide) o1 hg1 hat1
              clear p1_3 o1 hg1 hat1 hP3
              refine hKc.out _ _ (HS.out _ hP4.box hP4.vbx) (fun hHeld => ?_)
              clear hKc Kc
              (try simp only [List.getElem_toArray, List.getElem_cons_zero, List.getElem_cons_succ, Act.put, List.setIfInBounds_toArray, List.set_cons_zero, List.set_cons_succ])
              refine wpAnyH_ready (rs := [16]) (by kernel_rfl) (by simp) ?_
              refine AllReadyH.cons (o := _) rfl (fun Kc hKc => ?_) (AllReadyH.nil)
              · go_simp
                refine hKc.out _ _ (HS.out _ (hP4.alloc _).box (hP4.alloc _).vbx) (fun hHeld => ?_)
                clear hKc Kc
                (try simp only [List.getElem_toArray, List.getElem_cons_zero, List.getElem_cons_succ, Act.put, List.setIfInBounds_toArray, List.set_cons_zero, List.set_cons_succ])
                have hP5 := hP4.alloc (Obj.cells #[.int .i64 (v.hi - v.lo)] 3)
                have p2_5 := Pd.new hP4 3 (.int .i64 (v.hi - v.lo))
                clear hP4
                generalize R4.alloc (Obj.cells #[.int .i64 (v.hi - v.lo)] 3) = R5 at *
                generalize R4.heap.size = g2 at *
                refine wpAnyH_ready (rs := [17]) (by kernel_rfl) (by simp) ?_
                refine AllReadyH.cons (o := _) rfl (fun Kc hKc => ?_) (AllReadyH.nil)
                · refine step_append_at rfl _ _ 26 rfl pb 3 i0 (.int .i64 0) 1 8 Try.underlying26 hi0 iz0 iz1 iz2 rfl (by decide) bv P.b.length (intV P.b) rfl hP5.pv.b ⟨g2, 0, none⟩ 1 1 [.int .i64 (v.hi - v.lo)] rfl rfl p2_5.news (by intro u hu; simp at hu; subst hu; rfl) (by unfold maxLen; omega) (by omega) hP5.sz ?_
                  intro v2 R6 o2 hg2 hat2
                  obtain ⟨qa2, qc2, rfl⟩ := kown_form o2
                  have hP6 := hP5.pb_ (by decide) (by decide) o2 hg2 hat2
                  clear p2_5 o2 hg2 hat2 hP5
                  refine hKc.out _ _ (HS.out _ hP6.box hP6.vbx) (fun hHeld => ?_)
                  clear hKc Kc
                  (try simp only [List.getElem_toArray, List.getElem_cons_zero, List.getElem_cons_succ, Act.put, List.setIfInBounds_toArray, List.set_cons_zero, List.set_cons_succ])
                  refine wpAnyH_done (by kernel_rfl) ?_ _
                  intro r
                  have b6 := hP6.box
                  have b7 : (R6.setCell ⟨pb, 0, none⟩ (.slice qa0 (P.rows.length + 1) qc0)).heap[pb]? = some (.cells #[.slice qa0 (P.rows.length + 1) qc0, ev, bv, cv] 32 (0, 0)) := by simpa using set_at (L := [rv, ev, bv, cv]) (k := 0) (v := .slice qa0 (P.rows.length + 1) qc0) b6
                  have b8 : ((R6.setCell ⟨pb, 0, none⟩ (.slice qa0 (P.rows.length + 1) qc0)).setCell ⟨pb, 1, none⟩ (.slice qa1 (P.rel.length + 1) qc1)).heap[pb]? = some (.cells #[.slice qa0 (P.rows.length + 1) qc0, .slice qa1 (P.rel.length + 1) qc1, bv, cv] 32 (0, 0)) := by simpa using set_at (L := [.slice qa0 (P.rows.length + 1) qc0, ev, bv, cv]) (k := 1) (v := .slice qa1 (P.rel.length + 1) qc1) b7
                  have b9 : (((R6.setCell ⟨pb, 0, none⟩ (.slice qa0 (P.rows.length + 1) qc0)).setCell ⟨pb, 1, none⟩ (.slice qa1 (P.rel.length + 1) qc1)).setCell ⟨pb, 2, none⟩ (.slice qa2 (P.b.length + 1) qc2)).heap[pb]? = some (.cells #[.slice qa0 (P.rows.length + 1) qc0, .slice qa1 (P.rel.length + 1) qc1, .slice qa2 (P.b.length + 1) qc2, cv] 32 (0, 0)) := by simpa using set_at (L := [.slice qa0 (P.rows.length + 1) qc0, .slice qa1 (P.rel.length + 1) qc1, bv, cv]) (k := 2) (v := .slice qa2 (P.b.length + 1) qc2) b8
                  have c60 := ibx b6 0 rv rfl
                  have f60 := free_at (L := [rv, ev, bv, cv]) b6 0
                  have c61 := ibx b6 1 ev rfl
                  have f61 := free_at (L := [rv, ev, bv, cv]) b6 1
                  have c62 := ibx b6 2 bv rfl
                  have f62 := free_at (L := [rv, ev, bv, cv]) b6 2
                  have h9 := ((hP6.pv.set (i := 0) b6 (by decide) (by decide) (.slice qa0 (P.rows.length + 1) qc0)).set (i := 1) b7 (by decide) (by decide) (.slice qa1 (P.rel.length + 1) qc1)).set (i := 2) b8 (by decide) (by decide) (.slice qa2 (P.b.length + 1) qc2)
                  have B9 : Below pb W5 (((R6.setCell ⟨pb, 0, none⟩ (.slice qa0 (P.rows.length + 1) qc0)).setCell ⟨pb, 1, none⟩ (.slice qa1 (P.rel.length + 1) qc1)).setCell ⟨pb, 2, none⟩ (.slice qa2 (P.b.length + 1) qc2)) := ((hP6.bel.setCell (p := ⟨pb, 0, none⟩) (Nat.le_refl _) _).setCell (p := ⟨pb, 1, none⟩) (Nat.le_refl _) _).setCell (p := ⟨pb, 2, none⟩) (Nat.le_refl _) _
                  have x9 : (((R6.setCell ⟨pb, 0, none⟩ (.slice qa0 (P.rows.length + 1) qc0)).setCell ⟨pb, 1, none⟩ (.slice qa1 (P.rel.length + 1) qc1)).setCell ⟨pb, 2, none⟩ (.slice qa2 (P.b.length + 1) qc2)).heap[vb]? = some (.cells #[.int .i64 v.f, .int .i64 v.t, .int .i64 v.lo, .int .i64 v.hi, .int .i64 v.wo] 48 (0, 0)) := by
                    rw [Below.heap_setCell _ _ _ _ HVP.out, Below.heap_setCell _ _ _ _ HVP.out, Below.heap_setCell _ _ _ _ HVP.out]
                    exact hP6.vbx
                  have s9 : pb ≤ (((R6.setCell ⟨pb, 0, none⟩ (.slice qa0 (P.rows.length + 1) qc0)).setCell ⟨pb, 1, none⟩ (.slice qa1 (P.rel.length + 1) qc1)).setCell ⟨pb, 2, none⟩ (.slice qa2 (P.b.length + 1) qc2)).heap.size := by simpa [World.setCell] using hP6.sz
                  clear hP6 b6 b7 b8 hHeld
                  refine wpAny_ready (rs := [19]) (by kernel_rfl) (by simp) ?_
                  refine AllReady.cons (o := _) rfl (fun Kc hKc => ?_) AllReady.nil
                  go_simp
                  refine hKc _ _ ?_
                  clear hKc Kc
                  (try simp only [List.getElem_toArray, List.getElem_cons_zero, List.getElem_cons_succ, Act.put, List.setIfInBounds_toArray, List.set_cons_zero, List.set_cons_succ])
                  refine wpAny_ready (rs := [20]) (by kernel_rfl) (by simp) ?_
                  refine AllReady.cons (o := _) rfl (fun Kc hKc => ?_) AllReady.nil
                  go_simp
                  refine hKc _ _ ?_
                  clear hKc Kc
                  (try simp only [List.getElem_toArray, List.getElem_cons_zero, List.getElem_cons_succ, Act.put, List.setIfInBounds_toArray, List.set_cons_zero, List.set_cons_succ])
                  refine wpAny_ready (rs := [21]) (by kernel_rfl) (by simp) ?_
                  refine AllReady.cons (o := _) rfl (fun Kc hKc => ?_) AllReady.nil
                  go_simp
                  refine hKc _ _ ?_
                  clear hKc Kc
                  (try simp only [List.getElem_toArray, List.getElem_cons_zero, List.getElem_cons_succ, Act.put, List.setIfInBounds_toArray, List.set_cons_zero, List.set_cons_succ])
                  refine wpAny_ready (rs := [22]) (by kernel_rfl) (by simp) ?_
                  refine AllReady.cons (o := _) rfl (fun Kc hKc => ?_) AllReady.nil
                  go_simp
                  refine hKc _ _ ?_
                  clear hKc Kc
                  (try simp only [List.getElem_toArray, List.getElem_cons_zero, List.getElem_cons_succ, Act.put, List.setIfInBounds_toArray, List.set_cons_zero, List.set_cons_succ])
                  refine wpAny_ready (rs := [23]) (by kernel_rfl) (by simp) ?_
                  refine AllReady.cons (o := _) rfl (fun Kc hKc => ?_) AllReady.nil
                  go_simp
                  refine hKc _ _ ?_
                  clear hKc Kc
                  (try simp only [List.getElem_toArray, List.getElem_cons_zero, List.getElem_cons_succ, Act.put, List.setIfInBounds_toArray, List.set_cons_zero, List.set_cons_succ])
                  refine wpAny_done (by kernel_rfl) ?_ _
                  refine NoPanic.normal ?_
                  clear c60 f60 c61 f61 c62 f62
                  generalize ((R6.setCell ⟨pb, 0, none⟩ (.slice qa0 (P.rows.length + 1) qc0)).setCell ⟨pb, 1, none⟩ (.slice qa1 (P.rel.length + 1) qc1)).setCell ⟨pb, 2, none⟩ (.slice qa2 (P.b.length + 1) qc2) = W9 at *
                  have hP9 : P3 32 48 W5 W9 pb vb _ _ _ _ _ _ _ _ := ⟨h9, b9, x9, B9, s9⟩
                  have hPA := hP9.alloc (Obj.cells #[.int .i64 v.wo] 3)
                  have q9 := Pd.new hP9 3 (.int .i64 v.wo)
                  have y3 := ibx b9 3 cv rfl
                  have y4 := ibx x9 4 (.int .i64 v.wo) rfl
                  clear h9 b9 x9 B9 s9 hP9
                  have HPA := hid hPA
                  have HQ9 := hid q9
                  have hownc : (W9.alloc (Obj.cells #[.int .i64 v.wo] 3)).ownsRow pb 3 1 cv P.c.length (intV P.c) := hPA.pv.c
                  clear hPA q9
                  go_wp2_with (first | (at_builtin; refine wpList_append_own_at _ rfl _ _ 26 rfl pb 3 i0 (.int .i64 0) 1 8 Try.underlying26 hi0 iz0 iz1 iz2 rfl (by decide) cv P.c.length (intV P.c) rfl hownc ⟨W9.heap.size, 0, none⟩ 1 1 [.int .i64 v.wo] rfl rfl HQ9.out.news (by intro u hu; simp at hu; subst hu; rfl) (by unfold maxLen; omega) (by omega) HPA.out.sz ?_) | fail)
                  intro vc WC oc hgc _ hatc
                  obtain ⟨qac, qcc, rfl⟩ := kown_form oc
                  have hpc := HPA.out.pv.push_c oc hgc (by rw [World.size_alloc]; exact hatc)
                  obtain ⟨bc1, bc2, bc3, bc4⟩ := HPA.out.kept hownc hgc (by decide) (by decide)
                  have w3 := ibx bc1 3 cv rfl
                  have w3f := free_at (L := [_, _, _, _]) bc1 3
                  have bcs := set_at (L := [_, _, _, _]) (k := 3) (v := .slice qac (P.c.length + 1) qcc) bc1
                  have hps := hpc.set (i := 3) bc1 (by decide) (by decide) (.slice qac (P.c.length + 1) qcc)
                  have bbs := bc3.setCell (p := ⟨pb, 3, none⟩) (Nat.le_refl _) (.slice qac (P.c.length + 1) qcc)
                  have HBX : Hid (Bx (WC.setCell ⟨pb, 3, none⟩ (.slice qac (P.c.length + 1) qcc)) W5 pb (P1 V (k + 1))) := hid ⟨_, _, _, _, _, by simpa using bcs, by rw [HPS.out]; exact hps, bbs, by simpa [World.setCell] using bc4⟩
                  clear oc hgc hatc hpc bc1 bc2 bc3 bc4 bcs hps bbs hownc HPA HQ9
                  go_wp2_with fail
                  go_roundw
                  case rel => exact ⟨k + 1, by omega, by go_num, HBX⟩
                  case measure => simp [intOf]; omega
            · go_simp
              refine hKc.out _ _ (HS.out _ (hP3.alloc _).box (hP3.alloc _).vbx) (fun hHeld => ?_)
              clear hKc Kc
              (try simp only [List.getElem_toArray, List.getElem_cons_zero, List.getElem_cons_succ, Act.put, List.setIfInBounds_toArray, List.set_cons_zero, List.set_cons_succ])
              have hP4 := hP3.alloc (Obj.cells #[.int .i64 (v.hi - v.lo)] 3)
              have p2_4 := Pd.new hP3 3 (.int .i64 (v.hi - v.lo))
              have p1_4 := p1_3.alloc (Obj.cells #[.int .i64 (v.hi - v.lo)] 3)
              clear p1_3
              clear hP3
              generalize R3.alloc (Obj.cells #[.int .i64 (v.hi - v.lo)] 3) = R4 at *
              generalize R3.heap.size = g2 at *
              refine wpAnyH_ready (rs := [8]) (by kernel_rfl) (by simp) ?_
              refine AllReadyH.cons (o := _) rfl (fun Kc hKc => ?_) (AllReadyH.nil)
              · refine step_append_at rfl _ _ 26 rfl pb 3 i0 (.int .i64 0) 1 8 Try.underlying26 hi0 iz0 iz1 iz2 rfl (by decide) ev P.rel.length (intV P.rel) rfl hP4.pv.rel ⟨g1, 0, none⟩ 1 1 [.int .i64 (-1)] rfl rfl p1_4.news (by intro u hu; simp at hu; subst hu; rfl) (by unfold maxLen; omega) (by omega) hP4.sz ?_
                intro v1 R5 o1 hg1 hat1
                obtain ⟨qa1, qc1, rfl⟩ := kown_form o1
                have hP5 := hP4.pe (by decide) (by decide) o1 hg1 hat1
                have p2_5 := p2_4.ge hg1 hat1
                clear p2_4
                clear p1_4 o1 hg1 hat1 hP4
                refine hKc.out _ _ (HS.out _ hP5.box hP5.vbx) (fun hHeld => ?_)
                clear hKc Kc
                (try simp only [List.getElem_toArray, List.getElem_cons_zero, List.getElem_cons_succ, Act.put, List.setIfInBounds_toArray, List.set_cons_zero, List.set_cons_succ])
                refine wpAnyH_ready (rs := [17]) (by kernel_rfl) (by simp) ?_
                refine AllReadyH.cons (o := _) rfl (fun Kc hKc => ?_) (AllReadyH.nil)
                · refine step_append_at rfl _ _ 26 rfl pb 3 i0 (.int .i64 0) 1 8 Try.underlying26 hi0 iz0 iz1 iz2 rfl (by decide) bv P.b.length (intV P.b) rfl hP5.pv.b ⟨g2, 0, none⟩ 1 1 [.int .i64 (v.hi - v.lo)] rfl rfl p2_5.news (by intro u hu; simp at hu; subst hu; rfl) (by unfold maxLen; omega) (by omega) hP5.sz ?_
                  intro v2 R6 o2 hg2 hat2
                  obtain ⟨qa2, qc2, rfl⟩ := kown_form o2
                  have hP6 := hP5.pb_ (by decide) (by decide) o2 hg2 hat2
                  clear p2_5 o2 hg2 hat2 hP5
                  refine hKc.out _ _ (HS.out _ hP6.box hP6.vbx) (fun hHeld => ?_)
                  clear hKc Kc
                  (try simp only [List.getElem_toArray, List.getElem_cons_zero, List.getElem_cons_succ, Act.put, List.setIfInBounds_toArray, List.set_cons_zero, List.set_cons_succ])
                  refine wpAnyH_done (by kernel_rfl) ?_ _
                  intro r
                  have b6 := hP6.box
                  have b7 : (R6.setCell ⟨pb, 0, none⟩ (.slice qa0 (P.rows.length + 1) qc0)).heap[pb]? = some (.cells #[.slice qa0 (P.rows.length + 1) qc0, ev, bv, cv] 32 (0, 0)) := by simpa using set_at (L := [rv, ev, bv, cv]) (k := 0) (v := .slice qa0 (P.rows.length + 1) qc0) b6
                  have b8 : ((R6.setCell ⟨pb, 0, none⟩ (.slice qa0 (P.rows.length + 1) qc0)).setCell ⟨pb, 1, none⟩ (.slice qa1 (P.rel.length + 1) qc1)).heap[pb]? = some (.cells #[.slice qa0 (P.rows.length + 1) qc0, .slice qa1 (P.rel.length + 1) qc1, bv, cv] 32 (0, 0)) := by simpa using set_at (L := [.slice qa0 (P.rows.length + 1) qc0, ev, bv, cv]) (k := 1) (v := .slice qa1 (P.rel.length + 1) qc1) b7
                  have b9 : (((R6.setCell ⟨pb, 0, none⟩ (.slice qa0 (P.rows.length + 1) qc0)).setCell ⟨pb, 1, none⟩ (.slice qa1 (P.rel.length + 1) qc1)).setCell ⟨pb, 2, none⟩ (.slice qa2 (P.b.length + 1) qc2)).heap[pb]? = some (.cells #[.slice qa0 (P.rows.length + 1) qc0, .slice qa1 (P.rel.length + 1) qc1, .slice qa2 (P.b.length + 1) qc2, cv] 32 (0, 0)) := by simpa using set_at (L := [.slice qa0 (P.rows.length + 1) qc0, .slice qa1 (P.rel.length + 1) qc1, bv, cv]) (k := 2) (v := .slice qa2 (P.b.length + 1) qc2) b8
                  have c60 := ibx b6 0 rv rfl
                  have f60 := free_at (L := [rv, ev, bv, cv]) b6 0
                  have c61 := ibx b6 1 ev rfl
                  have f61 := free_at (L := [rv, ev, bv, cv]) b6 1
                  have c62 := ibx b6 2 bv rfl
                  have f62 := free_at (L := [rv, ev, bv, cv]) b6 2
                  have h9 := ((hP6.pv.set (i := 0) b6 (by decide) (by decide) (.slice qa0 (P.rows.length + 1) qc0)).set (i := 1) b7 (by decide) (by decide) (.slice qa1 (P.rel.length + 1) qc1)).set (i := 2) b8 (by decide) (by decide) (.slice qa2 (P.b.length + 1) qc2)
                  have B9 : Below pb W5 (((R6.setCell ⟨pb, 0, none⟩ (.slice qa0 (P.rows.length + 1) qc0)).setCell ⟨pb, 1, none⟩ (.slice qa1 (P.rel.length + 1) qc1)).setCell ⟨pb, 2, none⟩ (.slice qa2 (P.b.length + 1) qc2)) := ((hP6.bel.setCell (p := ⟨pb, 0, none⟩) (Nat.le_refl _) _).setCell (p := ⟨pb, 1, none⟩) (Nat.le_refl _) _).setCell (p := ⟨pb, 2, none⟩) (Nat.le_refl _) _
                  have x9 : (((R6.setCell ⟨pb, 0, none⟩ (.slice qa0 (P.rows.length + 1) qc0)).setCell ⟨pb, 1, none⟩ (.slice qa1 (P.rel.length + 1) qc1)).setCell ⟨pb, 2, none⟩ (.slice qa2 (P.b.length + 1) qc2)).heap[vb]? = some (.cells #[.int .i64 v.f, .int .i64 v.t, .int .i64 v.lo, .int .i64 v.hi, .int .i64 v.wo] 48 (0, 0)) := by
                    rw [Below.heap_setCell _ _ _ _ HVP.out, Below.heap_setCell _ _ _ _ HVP.out, Below.heap_setCell _ _ _ _ HVP.out]
                    exact hP6.vbx
                  have s9 : pb ≤ (((R6.setCell ⟨pb, 0, none⟩ (.slice qa0 (P.rows.length + 1) qc0)).setCell ⟨pb, 1, none⟩ (.slice qa1 (P.rel.length + 1) qc1)).setCell ⟨pb, 2, none⟩ (.slice qa2 (P.b.length + 1) qc2)).heap.size := by simpa [World.setCell] using hP6.sz
                  clear hP6 b6 b7 b8 hHeld
                  refine wpAny_ready (rs := [19]) (by kernel_rfl) (by simp) ?_
                  refine AllReady.cons (o := _) rfl (fun Kc hKc => ?_) AllReady.nil
                  go_simp
                  refine hKc _ _ ?_
                  clear hKc Kc
                  (try simp only [List.getElem_toArray, List.getElem_cons_zero, List.getElem_cons_succ, Act.put, List.setIfInBounds_toArray, List.set_cons_zero, List.set_cons_succ])
                  refine wpAny_ready (rs := [20]) (by kernel_rfl) (by simp) ?_
                  refine AllReady.cons (o := _) rfl (fun Kc hKc => ?_) AllReady.nil
                  go_simp
                  refine hKc _ _ ?_
                  clear hKc Kc
                  (try simp only [List.getElem_toArray, List.getElem_cons_zero, List.getElem_cons_succ, Act.put, List.setIfInBounds_toArray, List.set_cons_zero, List.set_cons_succ])
                  refine wpAny_ready (rs := [21]) (by kernel_rfl) (by simp) ?_
                  refine AllReady.cons (o := _) rfl (fun Kc hKc => ?_) AllReady.nil
                  go_simp
                  refine hKc _ _ ?_
                  clear hKc Kc
                  (try simp only [List.getElem_toArray, List.getElem_cons_zero, List.getElem_cons_succ, Act.put, List.setIfInBounds_toArray, List.set_cons_zero, List.set_cons_succ])
                  refine wpAny_ready (rs := [22]) (by kernel_rfl) (by simp) ?_
                  refine AllReady.cons (o := _) rfl (fun Kc hKc => ?_) AllReady.nil
                  go_simp
                  refine hKc _ _ ?_
                  clear hKc Kc
                  (try simp only [List.getElem_toArray, List.getElem_cons_zero, List.getElem_cons_succ, Act.put, List.setIfInBounds_toArray, List.set_cons_zero, List.set_cons_succ])
                  refine wpAny_ready (rs := [23]) (by kernel_rfl) (by simp) ?_
                  refine AllReady.cons (o := _) rfl (fun Kc hKc => ?_) AllReady.nil
                  go_simp
                  refine hKc _ _ ?_
                  clear hKc Kc
                  (try simp only [List.getElem_toArray, List.getElem_cons_zero, List.getElem_cons_succ, Act.put, List.setIfInBounds_toArray, List.set_cons_zero, List.set_cons_succ])
                  refine wpAny_done (by kernel_rfl) ?_ _
                  refine NoPanic.normal ?_
                  clear c60 f60 c61 f61 c62 f62
                  generalize ((R6.setCell ⟨pb, 0, none⟩ (.slice qa0 (P.rows.length + 1) qc0)).setCell ⟨pb, 1, none⟩ (.slice qa1 (P.rel.length + 1) qc1)).setCell ⟨pb, 2, none⟩ (.slice qa2 (P.b.length + 1) qc2) = W9 at *
                  have hP9 : P3 32 48 W5 W9 pb vb _ _ _ _ _ _ _ _ := ⟨h9, b9, x9, B9, s9⟩
                  have hPA := hP9.alloc (Obj.cells #[.int .i64 v.wo] 3)
                  have q9 := Pd.new hP9 3 (.int .i64 v.wo)
                  have y3 := ibx b9 3 cv rfl
                  have y4 := ibx x9 4 (.int .i64 v.wo) rfl
                  clear h9 b9 x9 B9 s9 hP9
                  have HPA := hid hPA
                  have HQ9 := hid q9
                  have hownc : (W9.alloc (Obj.cells #[.int .i64 v.wo] 3)).ownsRow pb 3 1 cv P.c.length (intV P.c) := hPA.pv.c
                  clear hPA q9
                  go_wp2_with (first | (at_builtin; refine wpList_append_own_at _ rfl _ _ 26 rfl pb 3 i0 (.int .i64 0) 1 8 Try.underlying26 hi0 iz0 iz1 iz2 rfl (by decide) cv P.c.length (intV P.c) rfl hownc ⟨W9.heap.size, 0, none⟩ 1 1 [.int .i64 v.wo] rfl rfl HQ9.out.news (by intro u hu; simp at hu; subst hu; rfl) (by unfold maxLen; omega) (by omega) HPA.out.sz ?_) | fail)
                  intro vc WC oc hgc _ hatc
                  obtain ⟨qac, qcc, rfl⟩ := kown_form oc
                  have hpc := HPA.out.pv.push_c oc hgc (by rw [World.size_alloc]; exact hatc)
                  obtain ⟨bc1, bc2, bc3, bc4⟩ := HPA.out.kept hownc hgc (by decide) (by decide)
                  have w3 := ibx bc1 3 cv rfl
                  have w3f := free_at (L := [_, _, _, _]) bc1 3
                  have bcs := set_at (L := [_, _, _, _]) (k := 3) (v := .slice qac (P.c.length + 1) qcc) bc1
                  have hps := hpc.set (i := 3) bc1 (by decide) (by decide) (.slice qac (P.c.length + 1) qcc)
                  have bbs := bc3.setCell (p := ⟨pb, 3, none⟩) (Nat.le_refl _) (.slice qac (P.c.length + 1) qcc)
                  have HBX : Hid (Bx (WC.setCell ⟨pb, 3, none⟩ (.slice qac (P.c.length + 1) qcc)) W5 pb (P1 V (k + 1))) := hid ⟨_, _, _, _, _, by simpa using bcs, by rw [HPS.out]; exact hps, bbs, by simpa [World.setCell] using bc4⟩
                  clear oc hgc hatc hpc bc1 bc2 bc3 bc4 bcs hps bbs hownc HPA HQ9
                  go_wp2_with fail
                  go_roundw
                  case rel => exact ⟨k + 1, by omega, by go_num, HBX⟩
                  case measure => simp [intOf]; omega
          · go_simp
            refine hKc.out _ _ (HS.out _ (hP2.alloc _).box (hP2.alloc _).vbx) (fun hHeld => ?_)
            clear hKc Kc
            (try simp only [List.getElem_toArray, List.getElem_cons_zero, List.getElem_cons_succ, Act.put, List.setIfInBounds_toArray, List.set_cons_zero, List.set_cons_succ])
            have hP3 := hP2.alloc (Obj.cells #[.int .i64 (v.hi - v.lo)] 3)
            have p2_3 := Pd.new hP2 3 (.int .i64 (v.hi - v.lo))
            have p0_3 := p0_2.alloc (Obj.cells #[.int .i64 (v.hi - v.lo)] 3)
            have p1_3 := p1_2.alloc (Obj.cells #[.int .i64 (v.hi - v.lo)] 3)
            have io3 : IO (R2.alloc (Obj.cells #[.int .i64 (v.hi - v.lo)] 3)) pb (Value.slice (some ⟨vb + 1, 0, none⟩) V.length V.length) LU := World.ownsRow.alloc io2 _
            clear io2
            clear p0_2
            clear p1_2
            clear hP2
            generalize R2.alloc (Obj.cells #[.int .i64 (v.hi - v.lo)] 3) = R3 at *
            generalize R2.heap.size = g2 at *
            refine wpAnyH_ready (rs := [4]) (by kernel_rfl) (by simp) ?_
            refine AllReadyH.cons (o := _) rfl (fun Kc hKc => ?_) (AllReadyH.nil)
            · refine step_append_at rfl _ _ 30 rfl pb 26 j0 (.slice none 0 0) 1 24 Try.underlying30 hj0 jz0 jz1 jz2 rfl (by decide) rv P.rows.length vs rfl hP3.pv.rows ⟨g0, 0, none⟩ 1 1 [(Value.slice (some ⟨vb + 1, 0, none⟩) V.length V.length)] rfl rfl p0_3.news (by intro u hu; simp at hu; subst hu; rfl) (by unfold maxLen; omega) (by omega) hP3.sz ?_
              intro v0 R4 o0 hg0 hat0
              obtain ⟨qa0, qc0, rfl⟩ := kown_form o0
              have hP4 := hP3.pr (by decide) (by decide) (L := LU) io3 HD.out.1 HD.out.2.1 HD.out.2.2 o0 hg0
              clear io3
              have p1_4 := p1_3.gr hg0 hat0
              clear p1_3
              have p2_4 := p2_3.gr hg0 hat0
              clear p2_3
              clear p0_3 o0 hg0 hat0 hP3
              refine hKc.out _ _ (HS.out _ hP4.box hP4.vbx) (fun hHeld => ?_)
              clear hKc Kc
              (try simp only [List.getElem_toArray, List.getElem_cons_zero, List.getElem_cons_succ, Act.put, List.setIfInBounds_toArray, List.set_cons_zero, List.set_cons_succ])
              refine wpAnyH_take (i := 18) (v := ?_) rfl (by kernel_rfl) (by kernel_rfl) (by kernel_rfl) (fun _ _ _ h => h) (Or.inl ⟨by rfl, ?_⟩) (by assumption) ?_
              rotate_left
              · intro w hSw
                (try dsimp only at hSw)
                go_simp
                (try with_reducible rfl)
              (try simp only [List.getElem_toArray, List.getElem_cons_zero, List.getElem_cons_succ, Act.put, List.setIfInBounds_toArray, List.set_cons_zero, List.set_cons_succ])
              refine wpAnyH_ready (rs := [8]) (by kernel_rfl) (by simp) ?_
              refine AllReadyH.cons (o := _) rfl (fun Kc hKc => ?_) (AllReadyH.nil)
              · refine step_append_at rfl _ _ 26 rfl pb 3 i0 (.int .i64 0) 1 8 Try.underlying26 hi0 iz0 iz1 iz2 rfl (by decide) ev P.rel.length (intV P.rel) rfl hP4.pv.rel ⟨g1, 0, none⟩ 1 1 [.int .i64 (-1)] rfl rfl p1_4.news (by intro u hu; simp at hu; subst hu; rfl) (by unfold maxLen; omega) (by omega) hP4.sz ?_
                intro v1 R5 o1 hg1 hat1
                obtain ⟨qa1, qc1, rfl⟩ := kown_form o1
                have hP5 := hP4.pe (by decide) (by decide) o1 hg1 hat1
                have p2_5 := p2_4.ge hg1 hat1
                clear p2_4
                clear p1_4 o1 hg1 hat1 hP4
                refine hKc.out _ _ (HS.out _ hP5.box hP5.vbx) (fun hHeld => ?_)
                clear hKc Kc
                (try simp only [List.getElem_toArray, List.getElem_cons_zero, List.getElem_cons_succ, Act.put, List.setIfInBounds_toArray, List.set_cons_zero, List.set_cons_succ])
                refine wpAnyH_ready (rs := [17]) (by kernel_rfl) (by simp) ?_
                refine AllReadyH.cons (o := _) rfl (fun Kc hKc => ?_) (AllReadyH.nil)
                · refine step_append_at rfl _ _ 26 rfl pb 3 i0 (.int .i64 0) 1 8 Try.underlying26 hi0 iz0 iz1 iz2 rfl (by decide) bv P.b.length (intV P.b) rfl hP5.pv.b ⟨g2, 0, none⟩ 1 1 [.int .i64 (v.hi - v.lo)] rfl rfl p2_5.news (by intro u hu; simp at hu; subst hu; rfl) (by unfold maxLen; omega) (by omega) hP5.sz ?_
                  intro v2 R6 o2 hg2 hat2
                  obtain ⟨qa2, qc2, rfl⟩ := kown_form o2
                  have hP6 := hP5.pb_ (by decide) (by decide) o2 hg2 hat2
                  clear p2_5 o2 hg2 hat2 hP5
                  refine hKc.out _ _ (HS.out _ hP6.box hP6.vbx) (fun hHeld => ?_)
                  clear hKc Kc
                  (try simp only [List.getElem_toArray, List.getElem_cons_zero, List.getElem_cons_succ, Act.put, List.setIfInBounds_toArray, List.set_cons_zero, List.set_cons_succ])
                  refine wpAnyH_done (by kernel_rfl) ?_ _
                  intro r
                  have b6 := hP6.box
                  have b7 : (R6.setCell ⟨pb, 0, none⟩ (.slice qa0 (P.rows.length + 1) qc0)).heap[pb]? = some (.cells #[.slice qa0 (P.rows.length + 1) qc0, ev, bv, cv] 32 (0, 0)) := by simpa using set_at (L := [rv, ev, bv, cv]) (k := 0) (v := .slice qa0 (P.rows.length + 1) qc0) b6
                  have b8 : ((R6.setCell ⟨pb, 0, none⟩ (.slice qa0 (P.rows.length + 1) qc0)).setCell ⟨pb, 1, none⟩ (.slice qa1 (P.rel.length + 1) qc1)).heap[pb]? = some (.cells #[.slice qa0 (P.rows.length + 1) qc0, .slice qa1 (P.rel.length + 1) qc1, bv, cv] 32 (0, 0)) := by simpa using set_at (L := [.slice qa0 (P.rows.length + 1) qc0, ev, bv, cv]) (k := 1) (v := .slice qa1 (P.rel.length + 1) qc1) b7
                  have b9 : (((R6.setCell ⟨pb, 0, none⟩ (.slice qa0 (P.rows.length + 1) qc0)).setCell ⟨pb, 1, none⟩ (.slice qa1 (P.rel.length + 1) qc1)).setCell ⟨pb, 2, none⟩ (.slice qa2 (P.b.length + 1) qc2)).heap[pb]? = some (.cells #[.slice qa0 (P.rows.length + 1) qc0, .slice qa1 (P.rel.length + 1) qc1, .slice qa2 (P.b.length + 1) qc2, cv] 32 (0, 0)) := by simpa using set_at (L := [.slice qa0 (P.rows.length + 1) qc0, .slice qa1 (P.rel.length + 1) qc1, bv, cv]) (k := 2) (v := .slice qa2 (P.b.length + 1) qc2) b8
                  have c60 := ibx b6 0 rv rfl
                  have f60 := free_at (L := [rv, ev, bv, cv]) b6 0
                  have c61 := ibx b6 1 ev rfl
                  have f61 := free_at (L := [rv, ev, bv, cv]) b6 1
                  have c62 := ibx b6 2 bv rfl
                  have f62 := free_at (L := [rv, ev, bv, cv]) b6 2
                  have h9 := ((hP6.pv.set (i := 0) b6 (by decide) (by decide) (.slice qa0 (P.rows.length + 1) qc0)).set (i := 1) b7 (by decide) (by decide) (.slice qa1 (P.rel.length + 1) qc1)).set (i := 2) b8 (by decide) (by decide) (.slice qa2 (P.b.length + 1) qc2)
                  have B9 : Below pb W5 (((R6.setCell ⟨pb, 0, none⟩ (.slice qa0 (P.rows.length + 1) qc0)).setCell ⟨pb, 1, none⟩ (.slice qa1 (P.rel.length + 1) qc1)).setCell ⟨pb, 2, none⟩ (.slice qa2 (P.b.length + 1) qc2)) := ((hP6.bel.setCell (p := ⟨pb, 0, none⟩) (Nat.le_refl _) _).setCell (p := ⟨pb, 1, none⟩) (Nat.le_refl _) _).setCell (p := ⟨pb, 2, none⟩) (Nat.le_refl _) _
                  have x9 : (((R6.setCell ⟨pb, 0, none⟩ (.slice qa0 (P.rows.length + 1) qc0)).setCell ⟨pb, 1, none⟩ (.slice qa1 (P.rel.length + 1) qc1)).setCell ⟨pb, 2, none⟩ (.slice qa2 (P.b.length + 1) qc2)).heap[vb]? = some (.cells #[.int .i64 v.f, .int .i64 v.t, .int .i64 v.lo, .int .i64 v.hi, .int .i64 v.wo] 48 (0, 0)) := by
                    rw [Below.heap_setCell _ _ _ _ HVP.out, Below.heap_setCell _ _ _ _ HVP.out, Below.heap_setCell _ _ _ _ HVP.out]
                    exact hP6.vbx
                  have s9 : pb ≤ (((R6.setCell ⟨pb, 0, none⟩ (.slice qa0 (P.rows.length + 1) qc0)).setCell ⟨pb, 1, none⟩ (.slice qa1 (P.rel.length + 1) qc1)).setCell ⟨pb, 2, none⟩ (.slice qa2 (P.b.length + 1) qc2)).heap.size := by simpa [World.setCell] using hP6.sz
                  clear hP6 b6 b7 b8 hHeld
                  refine wpAny_ready (rs := [19]) (by kernel_rfl) (by simp) ?_
                  refine AllReady.cons (o := _) rfl (fun Kc hKc => ?_) AllReady.nil
                  go_simp
                  refine hKc _ _ ?_
                  clear hKc Kc
                  (try simp only [List.getElem_toArray, List.getElem_cons_zero, List.getElem_cons_succ, Act.put, List.setIfInBounds_toArray, List.set_cons_zero, List.set_cons_succ])
                  refine wpAny_ready (rs := [20]) (by kernel_rfl) (by simp) ?_
                  refine AllReady.cons (o := _) rfl (fun Kc hKc => ?_) AllReady.nil
                  go_simp
                  refine hKc _ _ ?_
                  clear hKc Kc
                  (try simp only [List.getElem_toArray, List.getElem_cons_zero, List.getElem_cons_succ, Act.put, List.setIfInBounds_toArray, List.set_cons_zero, List.set_cons_succ])
                  refine wpAny_ready (rs := [21]) (by kernel_rfl) (by simp) ?_
                  refine AllReady.cons (o := _) rfl (fun Kc hKc => ?_) AllReady.nil
                  go_simp
                  refine hKc _ _ ?_
                  clear hKc Kc
                  (try simp only [List.getElem_toArray, List.getElem_cons_zero, List.getElem_cons_succ, Act.put, List.setIfInBounds_toArray, List.set_cons_zero, List.set_cons_succ])
                  refine wpAny_ready (rs := [22]) (by kernel_rfl) (by simp) ?_
                  refine AllReady.cons (o := _) rfl (fun Kc hKc => ?_) AllReady.nil
                  go_simp
                  refine hKc _ _ ?_
                  clear hKc Kc
                  (try simp only [List.getElem_toArray, List.getElem_cons_zero, List.getElem_cons_succ, Act.put, List.setIfInBounds_toArray, List.set_cons_zero, List.set_cons_succ])
                  refine wpAny_ready (rs := [23]) (by kernel_rfl) (by simp) ?_
                  refine AllReady.cons (o := _) rfl (fun Kc hKc => ?_) AllReady.nil
                  go_simp
                  refine hKc _ _ ?_
                  clear hKc Kc
                  (try simp only [List.getElem_toArray, List.getElem_cons_zero, List.getElem_cons_succ, Act.put, List.setIfInBounds_toArray, List.set_cons_zero, List.set_cons_succ])
                  refine wpAny_done (by kernel_rfl) ?_ _
                  refine NoPanic.normal ?_
                  clear c60 f60 c61 f61 c62 f62
                  generalize ((R6.setCell ⟨pb, 0, none⟩ (.slice qa0 (P.rows.length + 1) qc0)).setCell ⟨pb, 1, none⟩ (.slice qa1 (P.rel.length + 1) qc1)).setCell ⟨pb, 2, none⟩ (.slice qa2 (P.b.length + 1) qc2) = W9 at *
                  have hP9 : P3 32 48 W5 W9 pb vb _ _ _ _ _ _ _ _ := ⟨h9, b9, x9, B9, s9⟩
                  have hPA := hP9.alloc (Obj.cells #[.int .i64 v.wo] 3)
                  have q9 := Pd.new hP9 3 (.int .i64 v.wo)
                  have y3 := ibx b9 3 cv rfl
                  have y4 := ibx x9 4 (.int .i64 v.wo) rfl
                  clear h9 b9 x9 B9 s9 hP9
                  have HPA := hid hPA
                  have HQ9 := hid q9
                  have hownc : (W9.alloc (Obj.cells #[.int .i64 v.wo] 3)).ownsRow pb 3 1 cv P.c.length (intV P.c) := hPA.pv.c
                  clear hPA q9
                  go_wp2_with (first | (at_builtin; refine wpList_append_own_at _ rfl _ _ 26 rfl pb 3 i0 (.int .i64 0) 1 8 Try.underlying26 hi0 iz0 iz1 iz2 rfl (by decide) cv P.c.length (intV P.c) rfl hownc ⟨W9.heap.size, 0, none⟩ 1 1 [.int .i64 v.wo] rfl rfl HQ9.out.news (by intro u hu; simp at hu; subst hu; rfl) (by unfold maxLen; omega) (by omega) HPA.out.sz ?_) | fail)
                  intro vc WC oc hgc _ hatc
                  obtain ⟨qac, qcc, rfl⟩ := kown_form oc
                  have hpc := HPA.out.pv.push_c oc hgc (by rw [World.size_alloc]; exact hatc)
                  obtain ⟨bc1, bc2, bc3, bc4⟩ := HPA.out.kept hownc hgc (by decide) (by decide)
                  have w3 := ibx bc1 3 cv rfl
                  have w3f := free_at (L := [_, _, _, _]) bc1 3
                  have bcs := set_at (L := [_, _, _, _]) (k := 3) (v := .slice qac (P.c.length + 1) qcc) bc1
                  have hps := hpc.set (i := 3) bc1 (by decide) (by decide) (.slice qac (P.c.length + 1) qcc)
                  have bbs := bc3.setCell (p := ⟨pb, 3, none⟩) (Nat.le_refl _) (.slice qac (P.c.length + 1) qcc)
                  have HBX : Hid (Bx (WC.setCell ⟨pb, 3, none⟩ (.slice qac (P.c.length + 1) qcc)) W5 pb (P1 V (k + 1))) := hid ⟨_, _, _, _, _, by simpa using bcs, by rw [HPS.out]; exact hps, bbs, by simpa [World.setCell] using bc4⟩
                  clear oc hgc hatc hpc bc1 bc2 bc3 bc4 bcs hps bbs hownc HPA HQ9
                  go_wp2_with fail
                  go_roundw
                  case rel => exact ⟨k + 1, by omega, by go_num, HBX⟩
                  case measure => simp [intOf]; omega
        · go_simp
          refine hKc.out _ _ (HS.out _ (hP1.alloc _).box (hP1.alloc _).vbx) (fun hHeld => ?_)
          clear hKc Kc
          (try simp only [List.getElem_toArray, List.getElem_cons_zero, List.getElem_cons_succ, Act.put, List.setIfInBounds_toArray, List.set_cons_zero, List.set_cons_succ])
          have hP2 := hP1.alloc (Obj.cells #[.int .i64 (v.hi - v.lo)] 3)
          have p2_2 := Pd.new hP1 3 (.int .i64 (v.hi - v.lo))
          have p1_2 := p1_1.alloc (Obj.cells #[.int .i64 (v.hi - v.lo)] 3)
          have io2 : IO (R1.alloc (Obj.cells #[.int .i64 (v.hi - v.lo)] 3)) pb (Value.slice (some ⟨vb + 1, 0, none⟩) V.length V.length) LU := World.ownsRow.alloc io1 _
          clear io1
          clear p1_1
          clear hP1
          generalize R1.alloc (Obj.cells #[.int .i64 (v.hi - v.lo)] 3) = R2 at *
          generalize R1.heap.size = g2 at *
          refine wpAnyH_ready (rs := [3]) (by kernel_rfl) (by simp) ?_
          refine AllReadyH.cons (o := _) rfl (fun Kc hKc => ?_) (AllReadyH.nil)
          · go_simp
            refine hKc.out _ _ (HS.out _ (hP2.alloc _).box (hP2.alloc _).vbx) (fun hHeld => ?_)
            clear hKc Kc
            (try simp only [List.getElem_toArray, List.getElem_cons_zero, List.getElem_cons_succ, Act.put, List.setIfInBounds_toArray, List.set_cons_zero, List.set_cons_succ])
            have hP3 := hP2.alloc (Obj.cells #[(Value.slice (some ⟨vb + 1, 0, none⟩) V.length V.length)] 26)
            have p0_3 := Pd.new hP2 26 ((Value.slice (some ⟨vb + 1, 0, none⟩) V.length V.length))
            have p1_3 := p1_2.alloc (Obj.cells #[(Value.slice (some ⟨vb + 1, 0, none⟩) V.length V.length)] 26)
            have p2_3 := p2_2.alloc (Obj.cells #[(Value.slice (some ⟨vb + 1, 0, none⟩) V.length V.length)] 26)
            have io3 : IO (R2.alloc (Obj.cells #[(Value.slice (some ⟨vb + 1, 0, none⟩) V.length V.length)] 26)) pb (Value.slice (some ⟨vb + 1, 0, none⟩) V.length V.length) LU := World.ownsRow.alloc io2 _
            clear io2
            clear p1_2
            clear p2_2
            clear hP2
            generalize R2.alloc (Obj.cells #[(Value.slice (some ⟨vb + 1, 0, none⟩) V.length V.length)] 26) = R3 at *
            generalize R2.heap.size = g0 at *
            refine wpAnyH_ready (rs := [4]) (by kernel_rfl) (by simp) ?_
            refine AllReadyH.cons (o := _) rfl (fun Kc hKc => ?_) (AllReadyH.nil)
            · refine step_append_at rfl _ _ 30 rfl pb 26 j0 (.slice none 0 0) 1 24 Try.underlying30 hj0 jz0 jz1 jz2 rfl (by decide) rv P.rows.length vs rfl hP3.pv.rows ⟨g0, 0, none⟩ 1 1 [(Value.slice (some ⟨vb + 1, 0, none⟩) V.length V.length)] rfl rfl p0_3.news (by intro u hu; simp at hu; subst hu; rfl) (by unfold maxLen; omega) (by omega) hP3.sz ?_
              intro v0 R4 o0 hg0 hat0
              obtain ⟨qa0, qc0, rfl⟩ := kown_form o0
              have hP4 := hP3.pr (by decide) (by decide) (L := LU) io3 HD.out.1 HD.out.2.1 HD.out.2.2 o0 hg0
              clear io3
              have p1_4 := p1_3.gr hg0 hat0
              clear p1_3
              have p2_4 := p2_3.gr hg0 hat0
              clear p2_3
              clear p0_3 o0 hg0 hat0 hP3
              refine hKc.out _ _ (HS.out _ hP4.box hP4.vbx) (fun hHeld => ?_)
              clear hKc Kc
              (try simp only [List.getElem_toArray, List.getElem_cons_zero, List.getElem_cons_succ, Act.put, List.setIfInBounds_toArray, List.set_cons_zero, List.set_cons_succ])
              refine wpAnyH_take (i := 18) (v := ?_) rfl (by kernel_rfl) (by kernel_rfl) (by kernel_rfl) (fun _ _ _ h => h) (Or.inl ⟨by rfl, ?_⟩) (by assumption) ?_
              rotate_left
              · intro w hSw
                (try dsimp only at hSw)
                go_simp
                (try with_reducible rfl)
              (try simp only [List.getElem_toArray, List.getElem_cons_zero, List.getElem_cons_succ, Act.put, List.setIfInBounds_toArray, List.set_cons_zero, List.set_cons_succ])
              refine wpAnyH_ready (rs := [8]) (by kernel_rfl) (by simp) ?_
              refine AllReadyH.cons (o := _) rfl (fun Kc hKc => ?_) (AllReadyH.nil)
              · refine step_append_at rfl _ _ 26 rfl pb 3 i0 (.int .i64 0) 1 8 Try.underlying26 hi0 iz0 iz1 iz2 rfl (by decide) ev P.rel.length (intV P.rel) rfl hP4.pv.rel ⟨g1, 0, none⟩ 1 1 [.int .i64 (-1)] rfl rfl p1_4.news (by intro u hu; simp at hu; subst hu; rfl) (by unfold maxLen; omega) (by omega) hP4.sz ?_
                intro v1 R5 o1 hg1 hat1
                obtain ⟨qa1, qc1, rfl⟩ := kown_form o1
                have hP5 := hP4.pe (by decide) (by decide) o1 hg1 hat1
                have p2_5 := p2_4.ge hg1 hat1
                clear p2_4
                clear p1_4 o1 hg1 hat1 hP4
                refine hKc.out _ _ (HS.out _ hP5.box hP5.vbx) (fun hHeld => ?_)
                clear hKc Kc
                (try simp only [List.getElem_toArray, List.getElem_cons_zero, List.getElem_cons_succ, Act.put, List.setIfInBounds_toArray, List.set_cons_zero, List.set_cons_succ])
                refine wpAnyH_ready (rs := [17]) (by kernel_rfl) (by simp) ?_
                refine AllReadyH.cons (o := _) rfl (fun Kc hKc => ?_) (AllReadyH.nil)
                · refine step_append_at rfl _ _ 26 rfl pb 3 i0 (.int .i64 0) 1 8 Try.underlying26 hi0 iz0 iz1 iz2 rfl (by decide) bv P.b.length (intV P.b) rfl hP5.pv.b ⟨g2, 0, none⟩ 1 1 [.int .i64 (v.hi - v.lo)] rfl rfl p2_5.news (by intro u hu; simp at hu; subst hu; rfl) (by unfold maxLen; omega) (by omega) hP5.sz ?_
                  intro v2 R6 o2 hg2 hat2
                  obtain ⟨qa2, qc2, rfl⟩ := kown_form o2
                  have hP6 := hP5.pb_ (by decide) (by decide) o2 hg2 hat2
                  clear p2_5 o2 hg2 hat2 hP5
                  refine hKc.out _ _ (HS.out _ hP6.box hP6.vbx) (fun hHeld => ?_)
                  clear hKc Kc
                  (try simp only [List.getElem_toArray, List.getElem_cons_zero, List.getElem_cons_succ, Act.put, List.setIfInBounds_toArray, List.set_cons_zero, List.set_cons_succ])
                  refine wpAnyH_done (by kernel_rfl) ?_ _
                  intro r
                  have b6 := hP6.box
                  have b7 : (R6.setCell ⟨pb, 0, none⟩ (.slice qa0 (P.rows.length + 1) qc0)).heap[pb]? = some (.cells #[.slice qa0 (P.rows.length + 1) qc0, ev, bv, cv] 32 (0, 0)) := by simpa using set_at (L := [rv, ev, bv, cv]) (k := 0) (v := .slice qa0 (P.rows.length + 1) qc0) b6
                  have b8 : ((R6.setCell ⟨pb, 0, none⟩ (.slice qa0 (P.rows.length + 1) qc0)).setCell ⟨pb, 1, none⟩ (.slice qa1 (P.rel.length + 1) qc1)).heap[pb]? = some (.cells #[.slice qa0 (P.rows.length + 1) qc0, .slice qa1 (P.rel.length + 1) qc1, bv, cv] 32 (0, 0)) := by simpa using set_at (L := [.slice qa0 (P.rows.length + 1) qc0, ev, bv, cv]) (k := 1) (v := .slice qa1 (P.rel.length + 1) qc1) b7
                  have b9 : (((R6.setCell ⟨pb, 0, none⟩ (.slice qa0 (P.rows.length + 1) qc0)).setCell ⟨pb, 1, none⟩ (.slice qa1 (P.rel.length + 1) qc1)).setCell ⟨pb, 2, none⟩ (.slice qa2 (P.b.length + 1) qc2)).heap[pb]? = some (.cells #[.slice qa0 (P.rows.length + 1) qc0, .slice qa1 (P.rel.length + 1) qc1, .slice qa2 (P.b.length + 1) qc2, cv] 32 (0, 0)) := by simpa using set_at (L := [.slice qa0 (P.rows.length + 1) qc0, .slice qa1 (P.rel.length + 1) qc1, bv, cv]) (k := 2) (v := .slice qa2 (P.b.length + 1) qc2) b8
                  have c60 := ibx b6 0 rv rfl
                  have f60 := free_at (L := [rv, ev, bv, cv]) b6 0
                  have c61 := ibx b6 1 ev rfl
                  have f61 := free_at (L := [rv, ev, bv, cv]) b6 1
                  have c62 := ibx b6 2 bv rfl
                  have f62 := free_at (L := [rv, ev, bv, cv]) b6 2
                  have h9 := ((hP6.pv.set (i := 0) b6 (by decide) (by decide) (.slice qa0 (P.rows.length + 1) qc0)).set (i := 1) b7 (by decide) (by decide) (.slice qa1 (P.rel.length + 1) qc1)).set (i := 2) b8 (by decide) (by decide) (.slice qa2 (P.b.length + 1) qc2)
                  have B9 : Below pb W5 (((R6.setCell ⟨pb, 0, none⟩ (.slice qa0 (P.rows.length + 1) qc0)).setCell ⟨pb, 1, none⟩ (.slice qa1 (P.rel.length + 1) qc1)).setCell ⟨pb, 2, none⟩ (.slice qa2 (P.b.length + 1) qc2)) := ((hP6.bel.setCell (p := ⟨pb, 0, none⟩) (Nat.le_refl _) _).setCell (p := ⟨pb, 1, none⟩) (Nat.le_refl _) _).setCell (p := ⟨pb, 2, none⟩) (Nat.le_refl _) _
                  have x9 : (((R6.setCell ⟨pb, 0, none⟩ (.slice qa0 (P.rows.length + 1) qc0)).setCell ⟨pb, 1, none⟩ (.slice qa1 (P.rel.length + 1) qc1)).setCell ⟨pb, 2, none⟩ (.slice qa2 (P.b.length + 1) qc2)).heap[vb]? = some (.cells #[.int .i64 v.f, .int .i64 v.t, .int .i64 v.lo, .int .i64 v.hi, .int .i64 v.wo] 48 (0, 0)) := by
                    rw [Below.heap_setCell _ _ _ _ HVP.out, Below.heap_setCell _ _ _ _ HVP.out, Below.heap_setCell _ _ _ _ HVP.out]
                    exact hP6.vbx
                  have s9 : pb ≤ (((R6.setCell ⟨pb, 0, none⟩ (.slice qa0 (P.rows.length + 1) qc0)).setCell ⟨pb, 1, none⟩ (.slice qa1 (P.rel.length + 1) qc1)).setCell ⟨pb, 2, none⟩ (.slice qa2 (P.b.length + 1) qc2)).heap.size := by simpa [World.setCell] using hP6.sz
                  clear hP6 b6 b7 b8 hHeld
                  refine wpAny_ready (rs := [19]) (by kernel_rfl) (by simp) ?_
                  refine AllReady.cons (o := _) rfl (fun Kc hKc => ?_) AllReady.nil
                  go_simp
                  refine hKc _ _ ?_
                  clear hKc Kc
                  (try simp only [List.getElem_toArray, List.getElem_cons_zero, List.getElem_cons_succ, Act.put, List.setIfInBounds_toArray, List.set_cons_zero, List.set_cons_succ])
                  refine wpAny_ready (rs := [20]) (by kernel_rfl) (by simp) ?_
                  refine AllReady.cons (o := _) rfl (fun Kc hKc => ?_) AllReady.nil
                  go_simp
                  refine hKc _ _ ?_
                  clear hKc Kc
                  (try simp only [List.getElem_toArray, List.getElem_cons_zero, List.getElem_cons_succ, Act.put, List.setIfInBounds_toArray, List.set_cons_zero, List.set_cons_succ])
                  refine wpAny_ready (rs := [21]) (by kernel_rfl) (by simp) ?_
                  refine AllReady.cons (o := _) rfl (fun Kc hKc => ?_) AllReady.nil
                  go_simp
                  refine hKc _ _ ?_
                  clear hKc Kc
                  (try simp only [List.getElem_toArray, List.getElem_cons_zero, List.getElem_cons_succ, Act.put, List.setIfInBounds_toArray, List.set_cons_zero, List.set_cons_succ])
                  refine wpAny_ready (rs := [22]) (by kernel_rfl) (by simp) ?_
                  refine AllReady.cons (o := _) rfl (fun Kc hKc => ?_) AllReady.nil
                  go_simp
                  refine hKc _ _ ?_
                  clear hKc Kc
                  (try simp only [List.getElem_toArray, List.getElem_cons_zero, List.getElem_cons_succ, Act.put, List.setIfInBounds_toArray, List.set_cons_zero, List.set_cons_succ])
                  refine wpAny_ready (rs := [23]) (by kernel_rfl) (by simp) ?_
                  refine AllReady.cons (o := _) rfl (fun Kc hKc => ?_) AllReady.nil
                  go_simp
                  refine hKc _ _ ?_
                  clear hKc Kc
                  (try simp only [List.getElem_toArray, List.getElem_cons_zero, List.getElem_cons_succ, Act.put, List.setIfInBounds_toArray, List.set_cons_zero, List.set_cons_succ])
                  refine wpAny_done (by kernel_rfl) ?_ _
                  refine NoPanic.normal ?_
                  clear c60 f60 c61 f61 c62 f62
                  generalize ((R6.setCell ⟨pb, 0, none⟩ (.slice qa0 (P.rows.length + 1) qc0)).setCell ⟨pb, 1, none⟩ (.slice qa1 (P.rel.length + 1) qc1)).setCell ⟨pb, 2, none⟩ (.slice qa2 (P.b.length + 1) qc2) = W9 at *
                  have hP9 : P3 32 48 W5 W9 pb vb _ _ _ _ _ _ _ _ := ⟨h9, b9, x9, B9, s9⟩
                  have hPA := hP9.alloc (Obj.cells #[.int .i64 v.wo] 3)
                  have q9 := Pd.new hP9 3 (.int .i64 v.wo)
                  have y3 := ibx b9 3 cv rfl
                  have y4 := ibx x9 4 (.int .i64 v.wo) rfl
                  clear h9 b9 x9 B9 s9 hP9
                  have HPA := hid hPA
                  have HQ9 := hid q9
                  have hownc : (W9.alloc (Obj.cells #[.int .i64 v.wo] 3)).ownsRow pb 3 1 cv P.c.length (intV P.c) := hPA.pv.c
                  clear hPA q9
                  go_wp2_with (first | (at_builtin; refine wpList_append_own_at _ rfl _ _ 26 rfl pb 3 i0 (.int .i64 0) 1 8 Try.underlying26 hi0 iz0 iz1 iz2 rfl (by decide) cv P.c.length (intV P.c) rfl hownc ⟨W9.heap.size, 0, none⟩ 1 1 [.int .i64 v.wo] rfl rfl HQ9.out.news (by intro u hu; simp at hu; subst hu; rfl) (by unfold maxLen; omega) (by omega) HPA.out.sz ?_) | fail)
                  intro vc WC oc hgc _ hatc
                  obtain ⟨qac, qcc, rfl⟩ := kown_form oc
                  have hpc := HPA.out.pv.push_c oc hgc (by rw [World.size_alloc]; exact hatc)
                  obtain ⟨bc1, bc2, bc3, bc4⟩ := HPA.out.kept hownc hgc (by decide) (by decide)
                  have w3 := ibx bc1 3 cv rfl
                  have w3f := free_at (L := [_, _, _, _]) bc1 3
                  have bcs := set_at (L := [_, _, _, _]) (k := 3) (v := .slice qac (P.c.length + 1) qcc) bc1
                  have hps := hpc.set (i := 3) bc1 (by decide) (by decide) (.slice qac (P.c.length + 1) qcc)
                  have bbs := bc3.setCell (p := ⟨pb, 3, none⟩) (Nat.le_refl _) (.slice qac (P.c.length + 1) qcc)
                  have HBX : Hid (Bx (WC.setCell ⟨pb, 3, none⟩ (.slice qac (P.c.length + 1) qcc)) W5 pb (P1 V (k + 1))) := hid ⟨_, _, _, _, _, by simpa using bcs, by rw [HPS.out]; exact hps, bbs, by simpa [World.setCell] using bc4⟩
                  clear oc hgc hatc hpc bc1 bc2 bc3 bc4 bcs hps bbs hownc HPA HQ9
                  go_wp2_with fail
                  go_roundw
                  case rel => exact ⟨k + 1, by omega, by go_num, HBX⟩
                  case measure => simp [intOf]; omega
      · go_simp
        refine hKc.out _ _ (HS.out _ (hP0.alloc _).box (hP0.alloc _).vbx) (fun hHeld => ?_)
        clear hKc Kc
        (try simp only [List.getElem_toArray, List.getElem_cons_zero, List.getElem_cons_succ, Act.put, List.setIfInBounds_toArray, List.set_cons_zero, List.set_cons_succ])
        have hP1 := hP0.alloc (Obj.cells #[.int .i64 (v.hi - v.lo)] 3)
        have p2_1 := Pd.new hP0 3 (.int .i64 (v.hi - v.lo))
        have io1 : IO (R0.alloc (Obj.cells #[.int .i64 (v.hi - v.lo)] 3)) pb (Value.slice (some ⟨vb + 1, 0, none⟩) V.length V.length) LU := World.ownsRow.alloc io0 _
        clear io0
        clear hP0
        generalize R0.alloc (Obj.cells #[.int .i64 (v.hi - v.lo)] 3) = R1 at *
        generalize R0.heap.size = g2 at *
        refine wpAnyH_ready (rs := [3, 7]) (by kernel_rfl) (by simp) ?_
        refine AllReadyH.cons (o := _) rfl (fun Kc hKc => ?_) (AllReadyH.cons (o := _) rfl (fun Kc hKc => ?_) (AllReadyH.nil))
        · go_simp
          refine hKc.out _ _ (HS.out _ (hP1.alloc _).box (hP1.alloc _).vbx) (fun hHeld => ?_)
          clear hKc Kc
          (try simp only [List.getElem_toArray, List.getElem_cons_zero, List.getElem_cons_succ, Act.put, List.setIfInBounds_toArray, List.set_cons_zero, List.set_cons_succ])
          have hP2 := hP1.alloc (Obj.cells #[(Value.slice (some ⟨vb + 1, 0, none⟩) V.length V.length)] 26)
          have p0_2 := Pd.new hP1 26 ((Value.slice (some ⟨vb + 1, 0, none⟩) V.length V.length))
          have p2_2 := p2_1.alloc (Obj.cells #[(Value.slice (some ⟨vb + 1, 0, none⟩) V.length V.length)] 26)
          have io2 : IO (R1.alloc (Obj.cells #[(Value.slice (some ⟨vb + 1, 0, none⟩) V.length V.length)] 26)) pb (Value.slice (some ⟨vb + 1, 0, none⟩) V.length V.length) LU := World.ownsRow.alloc io1 _
          clear io1
          clear p2_1
          clear hP1
          generalize R1.alloc (Obj.cells #[(Value.slice (some ⟨vb + 1, 0, none⟩) V.length V.length)] 26) = R2 at *
          generalize R1.heap.size = g0 at *
          refine wpAnyH_ready (rs := [4, 7]) (by kernel_rfl) (by simp) ?_
          refine AllReadyH.cons (o := _) rfl (fun Kc hKc => ?_) (AllReadyH.cons (o := _) rfl (fun Kc hKc => ?_) (AllReadyH.nil))
          · refine step_append_at rfl _ _ 30 rfl pb 26 j0 (.slice none 0 0) 1 24 Try.underlying30 hj0 jz0 jz1 jz2 rfl (by decide) rv P.rows.length vs rfl hP2.pv.rows ⟨g0, 0, none⟩ 1 1 [(Value.slice (some ⟨vb + 1, 0, none⟩) V.length V.length)] rfl rfl p0_2.news (by intro u hu; simp at hu; subst hu; rfl) (by unfold maxLen; omega) (by omega) hP2.sz ?_
            intro v0 R3 o0 hg0 hat0
            obtain ⟨qa0, qc0, rfl⟩ := kown_form o0
            have hP3 := hP2.pr (by decide) (by decide) (L := LU) io2 HD.out.1 HD.out.2.1 HD.out.2.2 o0 hg0
            clear io2
            have p2_3 := p2_2.gr hg0 hat0
            clear p2_2
            clear p0_2 o0 hg0 hat0 hP2
            refine hKc.out _ _ (HS.out _ hP3.box hP3.vbx) (fun hHeld => ?_)
            clear hKc Kc
            (try simp only [List.getElem_toArray, List.getElem_cons_zero, List.getElem_cons_succ, Act.put, List.setIfInBounds_toArray, List.set_cons_zero, List.set_cons_succ])
            refine wpAnyH_take (i := 18) (v := ?_) rfl (by kernel_rfl) (by kernel_rfl) (by kernel_rfl) (fun _ _ _ h => h) (Or.inl ⟨by rfl, ?_⟩) (by assumption) ?_
            rotate_left
            · intro w hSw
              (try dsimp only at hSw)
              go_simp
              (try with_reducible rfl)
            (try simp only [List.getElem_toArray, List.getElem_cons_zero, List.getElem_cons_succ, Act.put, List.setIfInBounds_toArray, List.set_cons_zero, List.set_cons_succ])
            refine wpAnyH_ready (rs := [7]) (by kernel_rfl) (by simp) ?_
            refine AllReadyH.cons (o := _) rfl (fun Kc hKc => ?_) (AllReadyH.nil)
            · go_simp
              refine hKc.out _ _ (HS.out _ (hP3.alloc _).box (hP3.alloc _).vbx) (fun hHeld => ?_)
              clear hKc Kc
              (try simp only [List.getElem_toArray, List.getElem_cons_zero, List.getElem_cons_succ, Act.put, List.setIfInBounds_toArray, List.set_cons_zero, List.set_cons_succ])
              have hP4 := hP3.alloc (Obj.cells #[.int .i64 (-1)] 3)
              have p1_4 := Pd.new hP3 3 (.int .i64 (-1))
              have p2_4 := p2_3.alloc (Obj.cells #[.int .i64 (-1)] 3)
              clear p2_3
              clear hP3
              generalize R3.alloc (Obj.cells #[.int .i64 (-1)] 3) = R4 at *
              generalize R3.heap.size = g1 at *
              refine wpAnyH_ready (rs := [8]) (by kernel_rfl) (by simp) ?_
              refine AllReadyH.cons (o := _) rfl (fun Kc hKc => ?_) (AllReadyH.nil)
              · refine step_append_at rfl _ _ 26 rfl pb 3 i0 (.int .i64 0) 1 8 Try.underlying26 hi0 iz0 iz1 iz2 rfl (by decide) ev P.rel.length (intV P.rel) rfl hP4.pv.rel ⟨g1, 0, none⟩ 1 1 [.int .i64 (-1)] rfl rfl p1_4.news (by intro u hu; simp at hu; subst hu; rfl) (by unfold maxLen; omega) (by omega) hP4.sz ?_
                intro v1 R5 o1 hg1 hat1
                obtain ⟨qa1, qc1, rfl⟩ := kown_form o1
                have hP5 := hP4.pe (by decide) (by decide) o1 hg1 hat1
                have p2_5 := p2_4.ge hg1 hat1
                clear p2_4
                clear p1_4 o1 hg1 hat1 hP4
                refine hKc.out _ _ (HS.out _ hP5.box hP5.vbx) (fun hHeld => ?_)
                clear hKc Kc
                (try simp only [List.getElem_toArray, List.getElem_cons_zero, List.getElem_cons_succ, Act.put, List.setIfInBounds_toArray, List.set_cons_zero, List.set_cons_succ])
                refine wpAnyH_ready (rs := [17]) (by kernel_rfl) (by simp) ?_
                refine AllReadyH.cons (o := _) rfl (fun Kc hKc => ?_) (AllReadyH.nil)
                · refine step_append_at rfl _ _ 26 rfl pb 3 i0 (.int .i64 0) 1 8 Try.underlying26 hi0 iz0 iz1 iz2 rfl (by decide) bv P.b.length (intV P.b) rfl hP5.pv.b ⟨g2, 0, none⟩ 1 1 [.int .i64 (v.hi - v.lo)] rfl rfl p2_5.news (by intro u hu; simp at hu; subst hu; rfl) (by unfold maxLen; omega) (by omega) hP5.sz ?_
                  intro v2 R6 o2 hg2 hat2
                  obtain ⟨qa2, qc2, rfl⟩ := kown_form o2
                  have hP6 := hP5.pb_ (by decide) (by decide) o2 hg2 hat2
                  clear p2_5 o2 hg2 hat2 hP5
                  refine hKc.out _ _ (HS.out _ hP6.box hP6.vbx) (fun hHeld => ?_)
                  clear hKc Kc
                  (try simp only [List.getElem_toArray, List.getElem_cons_zero, List.getElem_cons_succ, Act.put, List.setIfInBounds_toArray, List.set_cons_zero, List.set_cons_succ])
                  refine wpAnyH_done (by kernel_rfl) ?_ _
                  intro r
                  have b6 := hP6.box
                  have b7 : (R6.setCell ⟨pb, 0, none⟩ (.slice qa0 (P.rows.length + 1) qc0)).heap[pb]? = some (.cells #[.slice qa0 (P.rows.length + 1) qc0, ev, bv, cv] 32 (0, 0)) := by simpa using set_at (L := [rv, ev, bv, cv]) (k := 0) (v := .slice qa0 (P.rows.length + 1) qc0) b6
                  have b8 : ((R6.setCell ⟨pb, 0, none⟩ (.slice qa0 (P.rows.length + 1) qc0)).setCell ⟨pb, 1, none⟩ (.slice qa1 (P.rel.length + 1) qc1)).heap[pb]? = some (.cells #[.slice qa0 (P.rows.length + 1) qc0, .slice qa1 (P.rel.length + 1) qc1, bv, cv] 32 (0, 0)) := by simpa using set_at (L := [.slice qa0 (P.rows.length + 1) qc0, ev, bv, cv]) (k := 1) (v := .slice qa1 (P.rel.length + 1) qc1) b7
                  have b9 : (((R6.setCell ⟨pb, 0, none⟩ (.slice qa0 (P.rows.length + 1) qc0)).setCell ⟨pb, 1, none⟩ (.slice qa1 (P.rel.length + 1) qc1)).setCell ⟨pb, 2, none⟩ (.slice qa2 (P.b.length + 1) qc2)).heap[pb]? = some (.cells #[.slice qa0 (P.rows.length + 1) qc0, .slice qa1 (P.rel.length + 1) qc1, .slice qa2 (P.b.length + 1) qc2, cv] 32 (0, 0)) := by simpa using set_at (L := [.slice qa0 (P.rows.length + 1) qc0, .slice qa1 (P.rel.length + 1) qc1, bv, cv]) (k := 2) (v := .slice qa2 (P.b.length + 1) qc2) b8
                  have c60 := ibx b6 0 rv rfl
                  have f60 := free_at (L := [rv, ev, bv, cv]) b6 0
                  have c61 := ibx b6 1 ev rfl
                  have f61 := free_at (L := [rv, ev, bv, cv]) b6 1
                  have c62 := ibx b6 2 bv rfl
                  have f62 := free_at (L := [rv, ev, bv, cv]) b6 2
                  have h9 := ((hP6.pv.set (i := 0) b6 (by decide) (by decide) (.slice qa0 (P.rows.length + 1) qc0)).set (i := 1) b7 (by decide) (by decide) (.slice qa1 (P.rel.length + 1) qc1)).set (i := 2) b8 (by decide) (by decide) (.slice qa2 (P.b.length + 1) qc2)
                  have B9 : Below pb W5 (((R6.setCell ⟨pb, 0, none⟩ (.slice qa0 (P.rows.length + 1) qc0)).setCell ⟨pb, 1, none⟩ (.slice qa1 (P.rel.length + 1) qc1)).setCell ⟨pb, 2, none⟩ (.slice qa2 (P.b.length + 1) qc2)) := ((hP6.bel.setCell (p := ⟨pb, 0, none⟩) (Nat.le_refl _) _).setCell (p := ⟨pb, 1, none⟩) (Nat.le_refl _) _).setCell (p := ⟨pb, 2, none⟩) (Nat.le_refl _) _
                  have x9 : (((R6.setCell ⟨pb, 0, none⟩ (.slice qa0 (P.rows.length + 1) qc0)).setCell ⟨pb, 1, none⟩ (.slice qa1 (P.rel.length + 1) qc1)).setCell ⟨pb, 2, none⟩ (.slice qa2 (P.b.length + 1) qc2)).heap[vb]? = some (.cells #[.int .i64 v.f, .int .i64 v.t, .int .i64 v.lo, .int .i64 v.hi, .int .i64 v.wo] 48 (0, 0)) := by
                    rw [Below.heap_setCell _ _ _ _ HVP.out, Below.heap_setCell _ _ _ _ HVP.out, Below.heap_setCell _ _ _ _ HVP.out]
                    exact hP6.vbx
                  have s9 : pb ≤ (((R6.setCell ⟨pb, 0, none⟩ (.slice qa0 (P.rows.length + 1) qc0)).setCell ⟨pb, 1, none⟩ (.slice qa1 (P.rel.length + 1) qc1)).setCell ⟨pb, 2, none⟩ (.slice qa2 (P.b.length + 1) qc2)).heap.size := by simpa [World.setCell] using hP6.sz
                  clear hP6 b6 b7 b8 hHeld
                  refine wpAny_ready (rs := [19]) (by kernel_rfl) (by simp) ?_
                  refine AllReady.cons (o := _) rfl (fun Kc hKc => ?_) AllReady.nil
                  go_simp
                  refine hKc _ _ ?_
                  clear hKc Kc
                  (try simp only [List.getElem_toArray, List.getElem_cons_zero, List.getElem_cons_succ, Act.put, List.setIfInBounds_toArray, List.set_cons_zero, List.set_cons_succ])
                  refine wpAny_ready (rs := [20]) (by kernel_rfl) (by simp) ?_
                  refine AllReady.cons (o := _) rfl (fun Kc hKc => ?_) AllReady.nil
                  go_simp
                  refine hKc _ _ ?_
                  clear hKc Kc
                  (try simp only [List.getElem_toArray, List.getElem_cons_zero, List.getElem_cons_succ, Act.put, List.setIfInBounds_toArray, List.set_cons_zero, List.set_cons_succ])
                  refine wpAny_ready (rs := [21]) (by kernel_rfl) (by simp) ?_
                  refine AllReady.cons (o := _) rfl (fun Kc hKc => ?_) AllReady.nil
                  go_simp
                  refine hKc _ _ ?_
                  clear hKc Kc
                  (try simp only [List.getElem_toArray, List.getElem_cons_zero, List.getElem_cons_succ, Act.put, List.setIfInBounds_toArray, List.set_cons_zero, List.set_cons_succ])
                  refine wpAny_ready (rs := [22]) (by kernel_rfl) (by simp) ?_
                  refine AllReady.cons (o := _) rfl (fun Kc hKc => ?_) AllReady.nil
                  go_simp
                  refine hKc _ _ ?_
                  clear hKc Kc
                  (try simp only [List.getElem_toArray, List.getElem_cons_zero, List.getElem_cons_succ, Act.put, List.setIfInBounds_toArray, List.set_cons_zero, List.set_cons_succ])
                  refine wpAny_ready (rs := [23]) (by kernel_rfl) (by simp) ?_
                  refine AllReady.cons (o := _) rfl (fun Kc hKc => ?_) AllReady.nil
                  go_simp
                  refine hKc _ _ ?_
                  clear hKc Kc
                  (try simp only [List.getElem_toArray, List.getElem_cons_zero, List.getElem_cons_succ, Act.put, List.setIfInBounds_toArray, List.set_cons_zero, List.set_cons_succ])
                  refine wpAny_done (by kernel_rfl) ?_ _
                  refine NoPanic.normal ?_
                  clear c60 f60 c61 f61 c62 f62
                  generalize ((R6.setCell ⟨pb, 0, none⟩ (.slice qa0 (P.rows.length + 1) qc0)).setCell ⟨pb, 1, none⟩ (.slice qa1 (P.rel.length + 1) qc1)).setCell ⟨pb, 2, none⟩ (.slice qa2 (P.b.length + 1) qc2) = W9 at *
                  have hP9 : P3 32 48 W5 W9 pb vb _ _ _ _ _ _ _ _ := ⟨h9, b9, x9, B9, s9⟩
                  have hPA := hP9.alloc (Obj.cells #[.int .i64 v.wo] 3)
                  have q9 := Pd.new hP9 3 (.int .i64 v.wo)
                  have y3 := ibx b9 3 cv rfl
                  have y4 := ibx x9 4 (.int .i64 v.wo) rfl
                  clear h9 b9 x9 B9 s9 hP9
                  have HPA := hid hPA
                  have HQ9 := hid q9
                  have hownc : (W9.alloc (Obj.cells #[.int .i64 v.wo] 3)).ownsRow pb 3 1 cv P.c.length (intV P.c) := hPA.pv.c
                  clear hPA q9
                  go_wp2_with (first | (at_builtin; refine wpList_append_own_at _ rfl _ _ 26 rfl pb 3 i0 (.int .i64 0) 1 8 Try.underlying26 hi0 iz0 iz1 iz2 rfl (by decide) cv P.c.length (intV P.c) rfl hownc ⟨W9.heap.size, 0, none⟩ 1 1 [.int .i64 v.wo] rfl rfl HQ9.out.news (by intro u hu; simp at hu; subst hu; rfl) (by unfold maxLen; omega) (by omega) HPA.out.sz ?_) | fail)
                  intro vc WC oc hgc _ hatc
                  obtain ⟨qac, qcc, rfl⟩ := kown_form oc
                  have hpc := HPA.out.pv.push_c oc hgc (by rw [World.size_alloc]; exact hatc)
                  obtain ⟨bc1, bc2, bc3, bc4⟩ := HPA.out.kept hownc hgc (by decide) (by decide)
                  have w3 := ibx bc1 3 cv rfl
                  have w3f := free_at (L := [_, _, _, _]) bc1 3
                  have bcs := set_at (L := [_, _, _, _]) (k := 3) (v := .slice qac (P.c.length + 1) qcc) bc1
                  have hps := hpc.set (i := 3) bc1 (by decide) (by decide) (.slice qac (P.c.length + 1) qcc)
                  have bbs := bc3.setCell (p := ⟨pb, 3, none⟩) (Nat.le_refl _) (.slice qac (P.c.length + 1) qcc)
                  have HBX : Hid (Bx (WC.setCell ⟨pb, 3, none⟩ (.slice qac (P.c.length + 1) qcc)) W5 pb (P1 V (k + 1))) := hid ⟨_, _, _, _, _, by simpa using bcs, by rw [HPS.out]; exact hps, bbs, by simpa [World.setCell] using bc4⟩
                  clear oc hgc hatc hpc bc1 bc2 bc3 bc4 bcs hps bbs hownc HPA HQ9
                  go_wp2_with fail
                  go_roundw
                  case rel => exact ⟨k + 1, by omega, by go_num, HBX⟩
                  case measure => simp [intOf]; omega
          · go_simp
            refine hKc.out _ _ (HS.out _ (hP2.alloc _).box (hP2.alloc _).vbx) (fun hHeld => ?_)
            clear hKc Kc
            (try simp only [List.getElem_toArray, List.getElem_cons_zero, List.getElem_cons_succ, Act.put, List.setIfInBounds_toArray, List.set_cons_zero, List.set_cons_succ])
            have hP3 := hP2.alloc (Obj.cells #[.int .i64 (-1)] 3)
            have p1_3 := Pd.new hP2 3 (.int .i64 (-1))
            have p0_3 := p0_2.alloc (Obj.cells #[.int .i64 (-1)] 3)
            have p2_3 := p2_2.alloc (Obj.cells #[.int .i64 (-1)] 3)
            have io3 : IO (R2.alloc (Obj.cells #[.int .i64 (-1)] 3)) pb (Value.slice (some ⟨vb + 1, 0, none⟩) V.length V.length) LU := World.ownsRow.alloc io2 _
            clear io2
            clear p0_2
            clear p2_2
            clear hP2
            generalize R2.alloc (Obj.cells #[.int .i64 (-1)] 3) = R3 at *
            generalize R2.heap.size = g1 at *
            refine wpAnyH_ready (rs := [4]) (by kernel_rfl) (by simp) ?_
            refine AllReadyH.cons (o := _) rfl (fun Kc hKc => ?_) (AllReadyH.nil)
            · refine step_append_at rfl _ _ 30 rfl pb 26 j0 (.slice none 0 0) 1 24 Try.underlying30 hj0 jz0 jz1 jz2 rfl (by decide) rv P.rows.length vs rfl hP3.pv.rows ⟨g0, 0, none⟩ 1 1 [(Value.slice (some ⟨vb + 1, 0, none⟩) V.length V.length)] rfl rfl p0_3.news (by intro u hu; simp at hu; subst hu; rfl) (by unfold maxLen; omega) (by omega) hP3.sz ?_
              intro v0 R4 o0 hg0 hat0
              obtain ⟨qa0, qc0, rfl⟩ := kown_form o0
              have hP4 := hP3.pr (by decide) (by decide) (L := LU) io3 HD.out.1 HD.out.2.1 HD.out.2.2 o0 hg0
              clear io3
              have p1_4 := p1_3.gr hg0 hat0
              clear p1_3
              have p2_4 := p2_3.gr hg0 hat0
              clear p2_3
              clear p0_3 o0 hg0 hat0 hP3
              refine hKc.out _ _ (HS.out _ hP4.box hP4.vbx) (fun hHeld => ?_)
              clear hKc Kc
              (try simp only [List.getElem_toArray, List.getElem_cons_zero, List.getElem_cons_succ, Act.put, List.setIfInBounds_toArray, List.set_cons_zero, List.set_cons_succ])
              refine wpAnyH_take (i := 18) (v := ?_) rfl (by kernel_rfl) (by kernel_rfl) (by kernel_rfl) (fun _ _ _ h => h) (Or.inl ⟨by rfl, ?_⟩) (by assumption) ?_
              rotate_left
              · intro w hSw
                (try dsimp only at hSw)
                go_simp
                (try with_reducible rfl)
              (try simp only [List.getElem_toArray, List.getElem_cons_zero, List.getElem_cons_succ, Act.put, List.setIfInBounds_toArray, List.set_cons_zero, List.set_cons_succ])
              refine wpAnyH_ready (rs := [8]) (by kernel_rfl) (by simp) ?_
              refine AllReadyH.cons (o := _) rfl (fun Kc hKc => ?_) (AllReadyH.nil)
              · refine step_append_at rfl _ _ 26 rfl pb 3 i0 (.int .i64 0) 1 8 Try.underlying26 hi0 iz0 iz1 iz2 rfl (by decide) ev P.rel.length (intV P.rel) rfl hP4.pv.rel ⟨g1, 0, none⟩ 1 1 [.int .i64 (-1)] rfl rfl p1_4.news (by intro u hu; simp at hu; subst hu; rfl) (by unfold maxLen; omega) (by omega) hP4.sz ?_
                intro v1 R5 o1 hg1 hat1
                obtain ⟨qa1, qc1, rfl⟩ := kown_form o1
                have hP5 := hP4.pe (by decide) (by decide) o1 hg1 hat1
                have p2_5 := p2_4.ge hg1 hat1
                clear p2_4
                clear p1_4 o1 hg1 hat1 hP4
                refine hKc.out _ _ (HS.out _ hP5.box hP5.vbx) (fun hHeld => ?_)
                clear hKc Kc
                (try simp only [List.getElem_toArray, List.getElem_cons_zero, List.getElem_cons_succ, Act.put, List.setIfInBounds_toArray, List.set_cons_zero, List.set_cons_succ])
                refine wpAnyH_ready (rs := [17]) (by kernel_rfl) (by simp) ?_
                refine AllReadyH.cons (o := _) rfl (fun Kc hKc => ?_) (AllReadyH.nil)
                · refine step_append_at rfl _ _ 26 rfl pb 3 i0 (.int .i64 0) 1 8 Try.underlying26 hi0 iz0 iz1 iz2 rfl (by decide) bv P.b.length (intV P.b) rfl hP5.pv.b ⟨g2, 0, none⟩ 1 1 [.int .i64 (v.hi - v.lo)] rfl rfl p2_5.news (by intro u hu; simp at hu; subst hu; rfl) (by unfold maxLen; omega) (by omega) hP5.sz ?_
                  intro v2 R6 o2 hg2 hat2
                  obtain ⟨qa2, qc2, rfl⟩ := kown_form o2
                  have hP6 := hP5.pb_ (by decide) (by decide) o2 hg2 hat2
                  clear p2_5 o2 hg2 hat2 hP5
                  refine hKc.out _ _ (HS.out _ hP6.box hP6.vbx) (fun hHeld => ?_)
                  clear hKc Kc
                  (try simp only [List.getElem_toArray, List.getElem_cons_zero, List.getElem_cons_succ, Act.put, List.setIfInBounds_toArray, List.set_cons_zero, List.set_cons_succ])
                  refine wpAnyH_done (by kernel_rfl) ?_ _
                  intro r
                  have b6 := hP6.box
                  have b7 : (R6.setCell ⟨pb, 0, none⟩ (.slice qa0 (P.rows.length + 1) qc0)).heap[pb]? = some (.cells #[.slice qa0 (P.rows.length + 1) qc0, ev, bv, cv] 32 (0, 0)) := by simpa using set_at (L := [rv, ev, bv, cv]) (k := 0) (v := .slice qa0 (P.rows.length + 1) qc0) b6
                  have b8 : ((R6.setCell ⟨pb, 0, none⟩ (.slice qa0 (P.rows.length + 1) qc0)).setCell ⟨pb, 1, none⟩ (.slice qa1 (P.rel.length + 1) qc1)).heap[pb]? = some (.cells #[.slice qa0 (P.rows.length + 1) qc0, .slice qa1 (P.rel.length + 1) qc1, bv, cv] 32 (0, 0)) := by simpa using set_at (L := [.slice qa0 (P.rows.length + 1) qc0, ev, bv, cv]) (k := 1) (v := .slice qa1 (P.rel.length + 1) qc1) b7
                  have b9 : (((R6.setCell ⟨pb, 0, none⟩ (.slice qa0 (P.rows.length + 1) qc0)).setCell ⟨pb, 1, none⟩ (.slice qa1 (P.rel.length + 1) qc1)).setCell ⟨pb, 2, none⟩ (.slice qa2 (P.b.length + 1) qc2)).heap[pb]? = some (.cells #[.slice qa0 (P.rows.length + 1) qc0, .slice qa1 (P.rel.length + 1) qc1, .slice qa2 (P.b.length + 1) qc2, cv] 32 (0, 0)) := by simpa using set_at (L := [.slice qa0 (P.rows.length + 1) qc0, .slice qa1 (P.rel.length + 1) qc1, bv, cv]) (k := 2) (v := .slice qa2 (P.b.length + 1) qc2) b8
                  have c60 := ibx b6 0 rv rfl
                  have f60 := free_at (L := [rv, ev, bv, cv]) b6 0
                  have c61 := ibx b6 1 ev rfl
                  have f61 := free_at (L := [rv, ev, bv, cv]) b6 1
                  have c62 := ibx b6 2 bv rfl
                  have f62 := free_at (L := [rv, ev, bv, cv]) b6 2
                  have h9 := ((hP6.pv.set (i := 0) b6 (by decide) (by decide) (.slice qa0 (P.rows.length + 1) qc0)).set (i := 1) b7 (by decide) (by decide) (.slice qa1 (P.rel.length + 1) qc1)).set (i := 2) b8 (by decide) (by decide) (.slice qa2 (P.b.length + 1) qc2)
                  have B9 : Below pb W5 (((R6.setCell ⟨pb, 0, none⟩ (.slice qa0 (P.rows.length + 1) qc0)).setCell ⟨pb, 1, none⟩ (.slice qa1 (P.rel.length + 1) qc1)).setCell ⟨pb, 2, none⟩ (.slice qa2 (P.b.length + 1) qc2)) := ((hP6.bel.setCell (p := ⟨pb, 0, none⟩) (Nat.le_refl _) _).setCell (p := ⟨pb, 1, none⟩) (Nat.le_refl _) _).setCell (p := ⟨pb, 2, none⟩) (Nat.le_refl _) _
                  have x9 : (((R6.setCell ⟨pb, 0, none⟩ (.slice qa0 (P.rows.length + 1) qc0)).setCell ⟨pb, 1, none⟩ (.slice qa1 (P.rel.length + 1) qc1)).setCell ⟨pb, 2, none⟩ (.slice qa2 (P.b.length + 1) qc2)).heap[vb]? = some (.cells #[.int .i64 v.f, .int .i64 v.t, .int .i64 v.lo, .int .i64 v.hi, .int .i64 v.wo] 48 (0, 0)) := by
                    rw [Below.heap_setCell _ _ _ _ HVP.out, Below.heap_setCell _ _ _ _ HVP.out, Below.heap_setCell _ _ _ _ HVP.out]
                    exact hP6.vbx
                  have s9 : pb ≤ (((R6.setCell ⟨pb, 0, none⟩ (.slice qa0 (P.rows.length + 1) qc0)).setCell ⟨pb, 1, none⟩ (.slice qa1 (P.rel.length + 1) qc1)).setCell ⟨pb, 2, none⟩ (.slice qa2 (P.b.length + 1) qc2)).heap.size := by simpa [World.setCell] using hP6.sz
                  clear hP6 b6 b7 b8 hHeld
                  refine wpAny_ready (rs := [19]) (by kernel_rfl) (by simp) ?_
                  refine AllReady.cons (o := _) rfl (fun Kc hKc => ?_) AllReady.nil
                  go_simp
                  refine hKc _ _ ?_
                  clear hKc Kc
                  (try simp only [List.getElem_toArray, List.getElem_cons_zero, List.getElem_cons_succ, Act.put, List.setIfInBounds_toArray, List.set_cons_zero, List.set_cons_succ])
                  refine wpAny_ready (rs := [20]) (by kernel_rfl) (by simp) ?_
                  refine AllReady.cons (o := _) rfl (fun Kc hKc => ?_) AllReady.nil
                  go_simp
                  refine hKc _ _ ?_
                  clear hKc Kc
                  (try simp only [List.getElem_toArray, List.getElem_cons_zero, List.getElem_cons_succ, Act.put, List.setIfInBounds_toArray, List.set_cons_zero, List.set_cons_succ])
                  refine wpAny_ready (rs := [21]) (by kernel_rfl) (by simp) ?_
                  refine AllReady.cons (o := _) rfl (fun Kc hKc => ?_) AllReady.nil
                  go_simp
                  refine hKc _ _ ?_
                  clear hKc Kc
                  (try simp only [List.getElem_toArray, List.getElem_cons_zero, List.getElem_cons_succ, Act.put, List.setIfInBounds_toArray, List.set_cons_zero, List.set_cons_succ])
                  refine wpAny_ready (rs := [22]) (by kernel_rfl) (by simp) ?_
                  refine AllReady.cons (o := _) rfl (fun Kc hKc => ?_) AllReady.nil
                  go_simp
                  refine hKc _ _ ?_
                  clear hKc Kc
                  (try simp only [List.getElem_toArray, List.getElem_cons_zero, List.getElem_cons_succ, Act.put, List.setIfInBounds_toArray, List.set_cons_zero, List.set_cons_succ])
                  refine wpAny_ready (rs := [23]) (by kernel_rfl) (by simp) ?_
                  refine AllReady.cons (o := _) rfl (fun Kc hKc => ?_) AllReady.nil
                  go_simp
                  refine hKc _ _ ?_
                  clear hKc Kc
                  (try simp only [List.getElem_toArray, List.getElem_cons_zero, List.getElem_cons_succ, Act.put, List.setIfInBounds_toArray, List.set_cons_zero, List.set_cons_succ])
                  refine wpAny_done (by kernel_rfl) ?_ _
                  refine NoPanic.normal ?_
                  clear c60 f60 c61 f61 c62 f62
                  generalize ((R6.setCell ⟨pb, 0, none⟩ (.slice qa0 (P.rows.length + 1) qc0)).setCell ⟨pb, 1, none⟩ (.slice qa1 (P.rel.length + 1) qc1)).setCell ⟨pb, 2, none⟩ (.slice qa2 (P.b.length + 1) qc2) = W9 at *
                  have hP9 : P3 32 48 W5 W9 pb vb _ _ _ _ _ _ _ _ := ⟨h9, b9, x9, B9, s9⟩
                  have hPA := hP9.alloc (Obj.cells #[.int .i64 v.wo] 3)
                  have q9 := Pd.new hP9 3 (.int .i64 v.wo)
                  have y3 := ibx b9 3 cv rfl
                  have y4 := ibx x9 4 (.int .i64 v.wo) rfl
                  clear h9 b9 x9 B9 s9 hP9
                  have HPA := hid hPA
                  have HQ9 := hid q9
                  have hownc : (W9.alloc (Obj.cells #[.int .i64 v.wo] 3)).ownsRow pb 3 1 cv P.c.length (intV P.c) := hPA.pv.c
                  clear hPA q9
                  go_wp2_with (first | (at_builtin; refine wpList_append_own_at _ rfl _ _ 26 rfl pb 3 i0 (.int .i64 0) 1 8 Try.underlying26 hi0 iz0 iz1 iz2 rfl (by decide) cv P.c.length (intV P.c) rfl hownc ⟨W9.heap.size, 0, none⟩ 1 1 [.int .i64 v.wo] rfl rfl HQ9.out.news (by intro u hu; simp at hu; subst hu; rfl) (by unfold maxLen; omega) (by omega) HPA.out.sz ?_) | fail)
                  intro vc WC oc hgc _ hatc
                  obtain ⟨qac, qcc, rfl⟩ := kown_form oc
                  have hpc := HPA.out.pv.push_c oc hgc (by rw [World.size_alloc]; exact hatc)
                  obtain ⟨bc1, bc2, bc3, bc4⟩ := HPA.out.kept hownc hgc (by decide) (by decide)
                  have w3 := ibx bc1 3 cv rfl
                  have w3f := free_at (L := [_, _, _, _]) bc1 3
                  have bcs := set_at (L := [_, _, _, _]) (k := 3) (v := .slice qac (P.c.length + 1) qcc) bc1
                  have hps := hpc.set (i := 3) bc1 (by decide) (by decide) (.slice qac (P.c.length + 1) qcc)
                  have bbs := bc3.setCell (p := ⟨pb, 3, none⟩) (Nat.le_refl _) (.slice qac (P.c.length + 1) qcc)
                  have HBX : Hid (Bx (WC.setCell ⟨pb, 3, none⟩ (.slice qac (P.c.length + 1) qcc)) W5 pb (P1 V (k + 1))) := hid ⟨_, _, _, _, _, by simpa using bcs, by rw [HPS.out]; exact hps, bbs, by simpa [World.setCell] using bc4⟩
                  clear oc hgc hatc hpc bc1 bc2 bc3 bc4 bcs hps bbs hownc HPA HQ9
                  go_wp2_with fail
                  go_roundw
                  case rel => exact ⟨k + 1, by omega, by go_num, HBX⟩
                  case measure => simp [intOf]; omega
        · go_simp
          refine hKc.out _ _ (HS.out _ (hP1.alloc _).box (hP1.alloc _).vbx) (fun hHeld => ?_)
          clear hKc Kc
          (try simp only [List.getElem_toArray, List.getElem_cons_zero, List.getElem_cons_succ, Act.put, List.setIfInBounds_toArray, List.set_cons_zero, List.set_cons_succ])
          have hP2 := hP1.alloc (Obj.cells #[.int .i64 (-1)] 3)
          have p1_2 := Pd.new hP1 3 (.int .i64 (-1))
          have p2_2 := p2_1.alloc (Obj.cells #[.int .i64 (-1)] 3)
          have io2 : IO (R1.alloc (Obj.cells #[.int .i64 (-1)] 3)) pb (Value.slice (some ⟨vb + 1, 0, none⟩) V.length V.length) LU := World.ownsRow.alloc io1 _
          clear io1
          clear p2_1
          clear hP1
          generalize R1.alloc (Obj.cells #[.int .i64 (-1)] 3) = R2 at *
          generalize R1.heap.size = g1 at *
          refine wpAnyH_ready (rs := [3]) (by kernel_rfl) (by simp) ?_
          refine AllReadyH.cons (o := _) rfl (fun Kc hKc => ?_) (AllReadyH.nil)
          · go_simp
            refine hKc.out _ _ (HS.out _ (hP2.alloc _).box (hP2.alloc _).vbx) (fun hHeld => ?_)
            clear hKc Kc
            (try simp only [List.getElem_toArray, List.getElem_cons_zero, List.getElem_cons_succ, Act.put, List.setIfInBounds_toArray, List.set_cons_zero, List.set_cons_succ])
            have hP3 := hP2.alloc (Obj.cells #[(Value.slice (some ⟨vb + 1, 0, none⟩) V.length V.length)] 26)
            have p0_3 := Pd.new hP2 26 ((Value.slice (some ⟨vb + 1, 0, none⟩) V.length V.length))
            have p1_3 := p1_2.alloc (Obj.cells #[(Value.slice (some ⟨vb + 1, 0, none⟩) V.length V.length)] 26)
            have p2_3 := p2_2.alloc (Obj.cells #[(Value.slice (some ⟨vb + 1, 0, none⟩) V.length V.length)] 26)
            have io3 : IO (R2.alloc (Obj.cells #[(Value.slice (some ⟨vb + 1, 0, none⟩) V.length V.length)] 26)) pb (Value.slice (some ⟨vb + 1, 0, none⟩) V.length V.length) LU := World.ownsRow.alloc io2 _
            clear io2
            clear p1_2
            clear p2_2
            clear hP2
            generalize R2.alloc (Obj.cells #[(Value.slice (some ⟨vb + 1, 0, none⟩) V.length V.length)] 26) = R3 at *
            generalize R2.heap.size = g0 at *
            refine wpAnyH_ready (rs := [4]) (by kernel_rfl) (by simp) ?_
            refine AllReadyH.cons (o := _) rfl (fun Kc hKc => ?_) (AllReadyH.nil)
            · refine step_append_at rfl _ _ 30 rfl pb 26 j0 (.slice none 0 0) 1 24 Try.underlying30 hj0 jz0 jz1 jz2 rfl (by decide) rv P.rows.length vs rfl hP3.pv.rows ⟨g0, 0, none⟩ 1 1 [(Value.slice (some ⟨vb + 1, 0, none⟩) V.length V.length)] rfl rfl p0_3.news (by intro u hu; simp at hu; subst hu; rfl) (by unfold maxLen; omega) (by omega) hP3.sz ?_
              intro v0 R4 o0 hg0 hat0
              obtain ⟨qa0, qc0, rfl⟩ := kown_form o0
              have hP4 := hP3.pr (by decide) (by decide) (L := LU) io3 HD.out.1 HD.out.2.1 HD.out.2.2 o0 hg0
              clear io3
              have p1_4 := p1_3.gr hg0 hat0
              clear p1_3
              have p2_4 := p2_3.gr hg0 hat0
              clear p2_3
              clear p0_3 o0 hg0 hat0 hP3
              refine hKc.out _ _ (HS.out _ hP4.box hP4.vbx) (fun hHeld => ?_)
              clear hKc Kc
              (try simp only [List.getElem_toArray, List.getElem_cons_zero, List.getElem_cons_succ, Act.put, List.setIfInBounds_toArray, List.set_cons_zero, List.set_cons_succ])
              refine wpAnyH_take (i := 18) (v := ?_) rfl (by kernel_rfl) (by kernel_rfl) (by kernel_rfl) (fun _ _ _ h => h) (Or.inl ⟨by rfl, ?_⟩) (by assumption) ?_
              rotate_left
              · intro w hSw
                (try dsimp only at hSw)
                go_simp
                (try with_reducible rfl)
              (try simp only [List.getElem_toArray, List.getElem_cons_zero, List.getElem_cons_succ, Act.put, List.setIfInBounds_toArray, List.set_cons_zero, List.set_cons_succ])
              refine wpAnyH_ready (rs := [8]) (by kernel_rfl) (by simp) ?_
              refine AllReadyH.cons (o := _) rfl (fun Kc hKc => ?_) (AllReadyH.nil)
              · refine step_append_at rfl _ _ 26 rfl pb 3 i0 (.int .i64 0) 1 8 Try.underlying26 hi0 iz0 iz1 iz2 rfl (by decide) ev P.rel.length (intV P.rel) rfl hP4.pv.rel ⟨g1, 0, none⟩ 1 1 [.int .i64 (-1)] rfl rfl p1_4.news (by intro u hu; simp at hu; subst hu; rfl) (by unfold maxLen; omega) (by omega) hP4.sz ?_
                intro v1 R5 o1 hg1 hat1
                obtain ⟨qa1, qc1, rfl⟩ := kown_form o1
                have hP5 := hP4.pe (by decide) (by decide) o1 hg1 hat1
                have p2_5 := p2_4.ge hg1 hat1
                clear p2_4
                clear p1_4 o1 hg1 hat1 hP4
                refine hKc.out _ _ (HS.out _ hP5.box hP5.vbx) (fun hHeld => ?_)
                clear hKc Kc
                (try simp only [List.getElem_toArray, List.getElem_cons_zero, List.getElem_cons_succ, Act.put, List.setIfInBounds_toArray, List.set_cons_zero, List.set_cons_succ])
                refine wpAnyH_ready (rs := [17]) (by kernel_rfl) (by simp) ?_
                refine AllReadyH.cons (o := _) rfl (fun Kc hKc => ?_) (AllReadyH.nil)
                · refine step_append_at rfl _ _ 26 rfl pb 3 i0 (.int .i64 0) 1 8 Try.underlying26 hi0 iz0 iz1 iz2 rfl (by decide) bv P.b.length (intV P.b) rfl hP5.pv.b ⟨g2, 0, none⟩ 1 1 [.int .i64 (v.hi - v.lo)] rfl rfl p2_5.news (by intro u hu; simp at hu; subst hu; rfl) (by unfold maxLen; omega) (by omega) hP5.sz ?_
                  intro v2 R6 o2 hg2 hat2
                  obtain ⟨qa2, qc2, rfl⟩ := kown_form o2
                  have hP6 := hP5.pb_ (by decide) (by decide) o2 hg2 hat2
                  clear p2_5 o2 hg2 hat2 hP5
                  refine hKc.out _ _ (HS.out _ hP6.box hP6.vbx) (fun hHeld => ?_)
                  clear hKc Kc
                  (try simp only [List.getElem_toArray, List.getElem_cons_zero, List.getElem_cons_succ, Act.put, List.setIfInBounds_toArray, List.set_cons_zero, List.set_cons_succ])
                  refine wpAnyH_done (by kernel_rfl) ?_ _
                  intro r
                  have b6 := hP6.box
                  have b7 : (R6.setCell ⟨pb, 0, none⟩ (.slice qa0 (P.rows.length + 1) qc0)).heap[pb]? = some (.cells #[.slice qa0 (P.rows.length + 1) qc0, ev, bv, cv] 32 (0, 0)) := by simpa using set_at (L := [rv, ev, bv, cv]) (k := 0) (v := .slice qa0 (P.rows.length + 1) qc0) b6
                  have b8 : ((R6.setCell ⟨pb, 0, none⟩ (.slice qa0 (P.rows.length + 1) qc0)).setCell ⟨pb, 1, none⟩ (.slice qa1 (P.rel.length + 1) qc1)).heap[pb]? = some (.cells #[.slice qa0 (P.rows.length + 1) qc0, .slice qa1 (P.rel.length + 1) qc1, bv, cv] 32 (0, 0)) := by simpa using set_at (L := [.slice qa0 (P.rows.length + 1) qc0, ev, bv, cv]) (k := 1) (v := .slice qa1 (P.rel.length + 1) qc1) b7
                  have b9 : (((R6.setCell ⟨pb, 0, none⟩ (.slice qa0 (P.rows.length + 1) qc0)).setCell ⟨pb, 1, none⟩ (.slice qa1 (P.rel.length + 1) qc1)).setCell ⟨pb, 2, none⟩ (.slice qa2 (P.b.length + 1) qc2)).heap[pb]? = some (.cells #[.slice qa0 (P.rows.length + 1) qc0, .slice qa1 (P.rel.length + 1) qc1, .slice qa2 (P.b.length + 1) qc2, cv] 32 (0, 0)) := by simpa using set_at (L := [.slice qa0 (P.rows.length + 1) qc0, .slice qa1 (P.rel.length + 1) qc1, bv, cv]) (k := 2) (v := .slice qa2 (P.b.length + 1) qc2) b8
                  have c60 := ibx b6 0 rv rfl
                  have f60 := free_at (L := [rv, ev, bv, cv]) b6 0
                  have c61 := ibx b6 1 ev rfl
                  have f61 := free_at (L := [rv, ev, bv, cv]) b6 1
                  have c62 := ibx b6 2 bv rfl
                  have f62 := free_at (L := [rv, ev, bv, cv]) b6 2
                  have h9 := ((hP6.pv.set (i := 0) b6 (by decide) (by decide) (.slice qa0 (P.rows.length + 1) qc0)).set (i := 1) b7 (by decide) (by decide) (.slice qa1 (P.rel.length + 1) qc1)).set (i := 2) b8 (by decide) (by decide) (.slice qa2 (P.b.length + 1) qc2)
                  have B9 : Below pb W5 (((R6.setCell ⟨pb, 0, none⟩ (.slice qa0 (P.rows.length + 1) qc0)).setCell ⟨pb, 1, none⟩ (.slice qa1 (P.rel.length + 1) qc1)).setCell ⟨pb, 2, none⟩ (.slice qa2 (P.b.length + 1) qc2)) := ((hP6.bel.setCell (p := ⟨pb, 0, none⟩) (Nat.le_refl _) _).setCell (p := ⟨pb, 1, none⟩) (Nat.le_refl _) _).setCell (p := ⟨pb, 2, none⟩) (Nat.le_refl _) _
                  have x9 : (((R6.setCell ⟨pb, 0, none⟩ (.slice qa0 (P.rows.length + 1) qc0)).setCell ⟨pb, 1, none⟩ (.slice qa1 (P.rel.length + 1) qc1)).setCell ⟨pb, 2, none⟩ (.slice qa2 (P.b.length + 1) qc2)).heap[vb]? = some (.cells #[.int .i64 v.f, .int .i64 v.t, .int .i64 v.lo, .int .i64 v.hi, .int .i64 v.wo] 48 (0, 0)) := by
                    rw [Below.heap_setCell _ _ _ _ HVP.out, Below.heap_setCell _ _ _ _ HVP.out, Below.heap_setCell _ _ _ _ HVP.out]
                    exact hP6.vbx
                  have s9 : pb ≤ (((R6.setCell ⟨pb, 0, none⟩ (.slice qa0 (P.rows.length + 1) qc0)).setCell ⟨pb, 1, none⟩ (.slice qa1 (P.rel.length + 1) qc1)).setCell ⟨pb, 2, none⟩ (.slice qa2 (P.b.length + 1) qc2)).heap.size := by simpa [World.setCell] using hP6.sz
                  clear hP6 b6 b7 b8 hHeld
                  refine wpAny_ready (rs := [19]) (by kernel_rfl) (by simp) ?_
                  refine AllReady.cons (o := _) rfl (fun Kc hKc => ?_) AllReady.nil
                  go_simp
                  refine hKc _ _ ?_
                  clear hKc Kc
                  (try simp only [List.getElem_toArray, List.getElem_cons_zero, List.getElem_cons_succ, Act.put, List.setIfInBounds_toArray, List.set_cons_zero, List.set_cons_succ])
                  refine wpAny_ready (rs := [20]) (by kernel_rfl) (by simp) ?_
                  refine AllReady.cons (o := _) rfl (fun Kc hKc => ?_) AllReady.nil
                  go_simp
                  refine hKc _ _ ?_
                  clear hKc Kc
                  (try simp only [List.getElem_toArray, List.getElem_cons_zero, List.getElem_cons_succ, Act.put, List.setIfInBounds_toArray, List.set_cons_zero, List.set_cons_succ])
                  refine wpAny_ready (rs := [21]) (by kernel_rfl) (by simp) ?_
                  refine AllReady.cons (o := _) rfl (fun Kc hKc => ?_) AllReady.nil
                  go_simp
                  refine hKc _ _ ?_
                  clear hKc Kc
                  (try simp only [List.getElem_toArray, List.getElem_cons_zero, List.getElem_cons_succ, Act.put, List.setIfInBounds_toArray, List.set_cons_zero, List.set_cons_succ])
                  refine wpAny_ready (rs := [22]) (by kernel_rfl) (by simp) ?_
                  refine AllReady.cons (o := _) rfl (fun Kc hKc => ?_) AllReady.nil
                  go_simp
                  refine hKc _ _ ?_
                  clear hKc Kc
                  (try simp only [List.getElem_toArray, List.getElem_cons_zero, List.getElem_cons_succ, Act.put, List.setIfInBounds_toArray, List.set_cons_zero, List.set_cons_succ])
                  refine wpAny_ready (rs := [23]) (by kernel_rfl) (by simp) ?_
                  refine AllReady.cons (o := _) rfl (fun Kc hKc => ?_) AllReady.nil
                  go_simp
                  refine hKc _ _ ?_
                  clear hKc Kc
                  (try simp only [List.getElem_toArray, List.getElem_cons_zero, List.getElem_cons_succ, Act.put, List.setIfInBounds_toArray, List.set_cons_zero, List.set_cons_succ])
                  refine wpAny_done (by kernel_rfl) ?_ _
                  refine NoPanic.normal ?_
                  clear c60 f60 c61 f61 c62 f62
                  generalize ((R6.setCell ⟨pb, 0, none⟩ (.slice qa0 (P.rows.length + 1) qc0)).setCell ⟨pb, 1, none⟩ (.slice qa1 (P.rel.length + 1) qc1)).setCell ⟨pb, 2, none⟩ (.slice qa2 (P.b.length + 1) qc2) = W9 at *
                  have hP9 : P3 32 48 W5 W9 pb vb _ _ _ _ _ _ _ _ := ⟨h9, b9, x9, B9, s9⟩
                  have hPA := hP9.alloc (Obj.cells #[.int .i64 v.wo] 3)
                  have q9 := Pd.new hP9 3 (.int .i64 v.wo)
                  have y3 := ibx b9 3 cv rfl
                  have y4 := ibx x9 4 (.int .i64 v.wo) rfl
                  clear h9 b9 x9 B9 s9 hP9
                  have HPA := hid hPA
                  have HQ9 := hid q9
                  have hownc : (W9.alloc (Obj.cells #[.int .i64 v.wo] 3)).ownsRow pb 3 1 cv P.c.length (intV P.c) := hPA.pv.c
                  clear hPA q9
                  go_wp2_with (first | (at_builtin; refine wpList_append_own_at _ rfl _ _ 26 rfl pb 3 i0 (.int .i64 0) 1 8 Try.underlying26 hi0 iz0 iz1 iz2 rfl (by decide) cv P.c.length (intV P.c) rfl hownc ⟨W9.heap.size, 0, none⟩ 1 1 [.int .i64 v.wo] rfl rfl HQ9.out.news (by intro u hu; simp at hu; subst hu; rfl) (by unfold maxLen; omega) (by omega) HPA.out.sz ?_) | fail)
                  intro vc WC oc hgc _ hatc
                  obtain ⟨qac, qcc, rfl⟩ := kown_form oc
                  have hpc := HPA.out.pv.push_c oc hgc (by rw [World.size_alloc]; exact hatc)
                  obtain ⟨bc1, bc2, bc3, bc4⟩ := HPA.out.kept hownc hgc (by decide) (by decide)
                  have w3 := ibx bc1 3 cv rfl
                  have w3f := free_at (L := [_, _, _, _]) bc1 3
                  have bcs := set_at (L := [_, _, _, _]) (k := 3) (v := .slice qac (P.c.length + 1) qcc) bc1
                  have hps := hpc.set (i := 3) bc1 (by decide) (by decide) (.slice qac (P.c.length + 1) qcc)
                  have bbs := bc3.setCell (p := ⟨pb, 3, none⟩) (Nat.le_refl _) (.slice qac (P.c.length + 1) qcc)
                  have HBX : Hid (Bx (WC.setCell ⟨pb, 3, none⟩ (.slice qac (P.c.length + 1) qcc)) W5 pb (P1 V (k + 1))) := hid ⟨_, _, _, _, _, by simpa using bcs, by rw [HPS.out]; exact hps, bbs, by simpa [World.setCell] using bc4⟩
                  clear oc hgc hatc hpc bc1 bc2 bc3 bc4 bcs hps bbs hownc HPA HQ9
                  go_wp2_with fail
                  go_roundw
                  case rel => exact ⟨k + 1, by omega, by go_num, HBX⟩
                  case measure => simp [intOf]; omega
    · obtain rfl : k = V.length := by omega
      have HB0 : Hid (Bx wr W5 pb (P2 V net 0)) := hid (by rw [← P2_zero]; exact HBX.out)
      clear HBX hlt hk
      go_wp2_with fail
      go_loopw [79] (fun iv wr => ∃ k : Nat, k ≤ net.length ∧ iv = .int .i64 (k : Int) ∧ Hid (Bx wr W5 pb (P2 V net k))) (fun iv _ => net.length - (intOf iv).toNat)
      case atStart => exact ⟨0, Nat.zero_le _, rfl, HB0⟩
      case round =>
        clear HB0
        obtain ⟨k, hk, rfl, HBX⟩ := hrel
        generalize wr = w2 at *
        by_cases hlt : k < net.length
        · obtain ⟨vs, rv, ev, bv, cv, hbx, hpv, hbel, hsz⟩ := HBX.out
          obtain ⟨gn, on, gc, e, _, _, hn0⟩ := (HN.out.below (HWW.out w2 hbel)).at k hlt
          simp only [Value.slice.injEq] at e
          obtain ⟨rfl, -, rfl⟩ := e
          have hx := rgN_iff.1 (HRN.out _ (List.getElem_mem hlt))
          have HPS := hid (P2_succ V net k hlt)
          obtain ⟨m1, m2, m3⟩ := P2_len V net k hV67 HZN.out (by omega)
          generalize net[k] = x at *
          generalize P2 V net k = P at *
          obtain ⟨x1, x2⟩ := hx
          have hwn : IntKind.i64.wrap (-x) = -x := by rw [IntKind.wrap_i64]; omega
          have hwn2 : wrap64 (-x) = -x := by simp only [wrap64]; omega
          have HMK := kmake V.length (by omega)
          have HIO0 : Hid (IO (w2.alloc (Obj.cells (intV (List.replicate V.length 0)).toArray 3)) pb (.slice (some ⟨w2.heap.size, 0, none⟩) V.length V.length) (prt V (k : Int) 0)) := hid (by rw [prt_zero]; exact kmade_io w2 pb V.length hsz (by omega))
          have HBM := hid (ibel w2 (Obj.cells (intV (List.replicate V.length 0)).toArray 3))
          have HPV := hid hpv
          have HHB := hid hbx
          have HBL := hid hbel
          have HSZ := hid hsz
          clear HBX hpv hbx hbel hsz
          go_wp2_with fail
          go_loopw [17, 91] (fun r iv wr => ∃ j : Nat, j ≤ V.length ∧ iv = .int .i64 (j : Int) ∧ r = .int .i64 (rgt (V.take j) x (k : Int)) ∧ Hid (IO wr pb (.slice (some ⟨w2.heap.size, 0, none⟩) V.length V.length) (prt V (k : Int) j)) ∧ Hid (Below w2.heap.size w2 wr)) (fun _ iv _ => V.length - (intOf iv).toNat)
          case atStart => exact ⟨0, Nat.zero_le _, rfl, by first | rfl | simp [rgt], HIO0, HBM⟩
          case round =>
            clear HIO0 HBM HMK hn0
            obtain ⟨j, hj, rfl, rfl, HIO, HB3⟩ := hrel
            have HW3 := hid (HBL.out.trans (HB3.out.mono HSZ.out))
            by_cases hjl : j < V.length
            · obtain ⟨g, gc, e, hgb, hcell⟩ := (HVW.out wr HW3.out).at j hjl
              simp only [Value.slice.injEq] at e
              obtain ⟨rfl, -, rfl⟩ := e
              have hc0 := hcell 0 _ rfl
              have hc1 := hcell 1 _ rfl
              have hc2 := hcell 2 _ rfl
              have hc3 := hcell 3 _ rfl
              have hc4 := hcell 4 _ rfl
              rw [Nat.add_zero] at hc0
              have hvo := HVO.out _ (List.getElem_mem hjl)
              have hrb := rgt_bound V HVO.out x (k : Int) x1 x2 j (by omega)
              have HRS := hid (rgt_succ V x (k : Int) j hjl)
              have HPR := hid (prt_succ V (k : Int) j hjl)
              have HLN := hid (prt_len V (k : Int) j hj)
              generalize V[j] = v at *
              generalize rgt (V.take j) x (k : Int) = r at *
              obtain ⟨o1, o2, o3, o4⟩ := hvo
              have hgd := gvs_mul v (k : Int) o1 o2
              have HG := hid (gives_any (wr.alloc (Obj.cells #[.int .i64 v.f, .int .i64 v.t, .int .i64 v.lo, .int .i64 v.hi, .int .i64 v.wo] 48)) v (k : Int))
              have b6 := ibel wr (Obj.cells #[.int .i64 v.f, .int .i64 v.t, .int .i64 v.lo, .int .i64 v.hi, .int .i64 v.wo] 48)
              have x6 := inew wr (Obj.cells #[.int .i64 v.f, .int .i64 v.t, .int .i64 v.lo, .int .i64 v.hi, .int .i64 v.wo] 48)
              have p0 := ibx x6 0 _ rfl
              have p1 := ibx x6 1 _ rfl
              have p2 := ibx x6 2 (.int .i64 v.lo) rfl
              have p3 := ibx x6 3 _ rfl
              have p4 := ibx x6 4 _ rfl
              have HB6 := hid b6
              have HX6 := hid x6
              clear hcell b6 x6
              go_wp2_with fail
              refine HG.out.mono ?_
              rintro e W7 ⟨rfl, b7⟩
              have q2 := ikc b7 p2
              have b37 := chain2 HB6.out b7
              have HQ7 := hid ((b7.block _ (lt_of_block HX6.out)).trans HX6.out)
              have io7 : IO W7 pb (.slice (some ⟨w2.heap.size, 0, none⟩) V.length V.length) (prt V (k : Int) j) := own_below HIO.out b37
              obtain ⟨⟨u0, hu0⟩, hu1, hio8⟩ := io7.put HLN.out j hjl (gvs v (k : Int))
              have HIO8 := hid (show IO _ pb _ (prt V (k : Int) (j + 1)) from HPR.out ▸ hio8)
              have hr8 := (show (W7.setCell ⟨w2.heap.size, j, none⟩ (.int .i64 (gvs v (k : Int)))).cell? ⟨w2.heap.size, j, none⟩ = some (.int .i64 (gvs v (k : Int))) from by
                have := IO.cellI hio8 (by simp [HLN.out]) j hjl
                simpa using this)
              have hne : wr.heap.size ≠ w2.heap.size := by have := (World.ownsRow.lt HIO.out w2.heap.size rfl).2; omega
              have hx8 : (W7.setCell ⟨w2.heap.size, j, none⟩ (.int .i64 (gvs v (k : Int)))).heap[wr.heap.size]? = some (.cells #[.int .i64 v.f, .int .i64 v.t, .int .i64 v.lo, .int .i64 v.hi, .int .i64 v.wo] 48 (0, 0)) := by rw [Below.heap_setCell _ _ _ _ hne]; exact HQ7.out
              have q8 := ibx hx8 2 (.int .i64 v.lo) rfl
              have HB8 := hid (HB3.out.trans ((b37.mono HB3.out.size).setCell (p := ⟨w2.heap.size, j, none⟩) (Nat.le_refl _) (.int .i64 (gvs v (k : Int)))))
              have hm1 : IntKind.i64.wrap (gvs v (k : Int) * v.lo) = gvs v (k : Int) * v.lo := by rw [IntKind.wrap_i64]; omega
              have hm2 : wrap64 (gvs v (k : Int) * v.lo) = gvs v (k : Int) * v.lo := by simp only [wrap64]; omega
              have hm3 : IntKind.i64.wrap (r - gvs v (k : Int) * v.lo) = r - gvs v (k : Int) * v.lo := by rw [IntKind.wrap_i64]; omega
              have hm4 : wrap64 (r - gvs v (k : Int) * v.lo) = r - gvs v (k : Int) * v.lo := by simp only [wrap64]; omega
              clear p0 p1 p2 p3 p4 hc0 hc1 hc2 hc3 hc4 b7 b37 io7 hio8 HG HIO HPR HLN HX6 HB6 hx8 hgd hrb q2 HQ7 hne
              go_wp2_with fail
              generalize W7.setCell ⟨w2.heap.size, j, none⟩ (.int .i64 (gvs v (k : Int))) = W8 at *
              refine wp_region_noPanic ?_
              refine wp_region_held_drew (S := fun Y => Y.cell? ⟨w2.heap.size, j, none⟩ = some (.int .i64 (gvs v (k : Int))) ∧ Y.cell? ⟨wr.heap.size, 2, none⟩ = some (.int .i64 v.lo)) (by kernel_rfl) (⟨hr8, q8⟩) (fun hHeld => ?_)
              refine wpAnyH_take (i := 0) (v := ?_) rfl (by kernel_rfl) (by kernel_rfl) (by kernel_rfl) (fun _ _ _ h => h) (Or.inl ⟨by rfl, ?_⟩) (by assumption) ?_
              rotate_left
              · intro w hSw
                (try dsimp only at hSw)
                go_simp
                (try with_reducible rfl)
              (try simp only [List.getElem_toArray, List.getElem_cons_zero, List.getElem_cons_succ, Act.put, List.setIfInBounds_toArray, List.set_cons_zero, List.set_cons_succ])
              refine wpAnyH_take (i := 1) (v := ?_) rfl (by kernel_rfl) (by kernel_rfl) (by kernel_rfl) (fun _ _ _ h => h) (Or.inl ⟨by rfl, ?_⟩) (by assumption) ?_
              rotate_left
              · intro w hSw
                (try dsimp only at hSw)
                go_simp
                (try with_reducible rfl)
              (try simp only [List.getElem_toArray, List.getElem_cons_zero, List.getElem_cons_succ, Act.put, List.setIfInBounds_toArray, List.set_cons_zero, List.set_cons_succ])
              refine wpAnyH_take (i := 2) (v := ?_) rfl (by kernel_rfl) (by kernel_rfl) (by kernel_rfl) (fun _ _ _ h => h) (Or.inl ⟨by rfl, ?_⟩) (by assumption) ?_
              rotate_left
              · intro w hSw
                (try dsimp only at hSw)
                go_simp
                (try with_reducible rfl)
              (try simp only [List.getElem_toArray, List.getElem_cons_zero, List.getElem_cons_succ, Act.put, List.setIfInBounds_toArray, List.set_cons_zero, List.set_cons_succ])
              refine wpAnyH_take (i := 3) (v := ?_) rfl (by kernel_rfl) (by kernel_rfl) (by kernel_rfl) (fun _ _ _ h => h) (Or.inl ⟨by rfl, ?_⟩) (by assumption) ?_
              rotate_left
              · intro w hSw
                (try dsimp only at hSw)
                go_simp
                (try with_reducible rfl)
              (try simp only [List.getElem_toArray, List.getElem_cons_zero, List.getElem_cons_succ, Act.put, List.setIfInBounds_toArray, List.set_cons_zero, List.set_cons_succ])
              refine wpAnyH_take (i := 4) (v := ?_) rfl (by kernel_rfl) (by kernel_rfl) (by kernel_rfl) (fun _ _ _ h => h) (Or.inl ⟨by rfl, ?_⟩) (by assumption) ?_
              rotate_left
              · intro w hSw
                (try dsimp only at hSw)
                go_simp
                (try with_reducible rfl)
              (try simp only [List.getElem_toArray, List.getElem_cons_zero, List.getElem_cons_succ, Act.put, List.setIfInBounds_toArray, List.set_cons_zero, List.set_cons_succ])
              refine wpAnyH_take (i := 5) (v := ?_) rfl (by kernel_rfl) (by kernel_rfl) (by kernel_rfl) (fun _ _ _ h => h) (Or.inl ⟨by rfl, ?_⟩) (by assumption) ?_
              rotate_left
              · intro w hSw
                (try dsimp only at hSw)
                go_simp
                (try with_reducible rfl)
              (try simp only [List.getElem_toArray, List.getElem_cons_zero, List.getElem_cons_succ, Act.put, List.setIfInBounds_toArray, List.set_cons_zero, List.set_cons_succ])
              refine wpAnyH_take (i := 6) (v := ?_) rfl (by kernel_rfl) (by kernel_rfl) (by kernel_rfl) (fun _ _ _ h => h) (Or.inl ⟨by rfl, ?_⟩) (by assumption) ?_
              rotate_left
              · intro w hSw
                (try dsimp only at hSw)
                go_simp
                (try with_reducible rfl)
              (try simp only [List.getElem_toArray, List.getElem_cons_zero, List.getElem_cons_succ, Act.put, List.setIfInBounds_toArray, List.set_cons_zero, List.set_cons_succ])
              refine wpAnyH_take (i := 7) (v := ?_) rfl (by kernel_rfl) (by kernel_rfl) (by kernel_rfl) (fun _ _ _ h => h) (Or.inl ⟨by rfl, ?_⟩) (by assumption) ?_
              rotate_left
              · intro w hSw
                (try dsimp only at hSw)
                go_simp
                (try with_reducible rfl)
              (try simp only [List.getElem_toArray, List.getElem_cons_zero, List.getElem_cons_succ, Act.put, List.setIfInBounds_toArray, List.set_cons_zero, List.set_cons_succ])
              refine wpAnyH_take (i := 8) (v := ?_) rfl (by kernel_rfl) (by kernel_rfl) (by kernel_rfl) (fun _ _ _ h => h) (Or.inl ⟨by rfl, ?_⟩) (by assumption) ?_
              rotate_left
              · intro w hSw
                (try dsimp only at hSw)
                go_simp
                (try with_reducible rfl)
              (try simp only [List.getElem_toArray, List.getElem_cons_zero, List.getElem_cons_succ, Act.put, List.setIfInBounds_toArray, List.set_cons_zero, List.set_cons_succ])
              refine wpAnyH_take (i := 9) (v := ?_) rfl (by kernel_rfl) (by kernel_rfl) (by kernel_rfl) (fun _ _ _ h => h) (Or.inl ⟨by rfl, ?_⟩) (by assumption) ?_
              rotate_left
              · intro w hSw
                (try dsimp only at hSw)
                go_simp
                (try with_reducible rfl)
              (try simp only [List.getElem_toArray, List.getElem_cons_zero, List.getElem_cons_succ, Act.put, List.setIfInBounds_toArray, List.set_cons_zero, List.set_cons_succ])
              refine wpAnyH_done (by kernel_rfl) ?_ _
              refine NoPanic.normal ?_
              have HIO9 := hid HIO8.out.drewK
              have HB9 := hid HB8.out.drew
              go_wp2_with fail
              go_roundw
              case rel => exact ⟨j + 1, by omega, by go_num, by rw [HRS.out], HIO9, HB9⟩
              case measure => simp [intOf]; omega
            · obtain rfl : j = V.length := by omega
              simp only [List.take_length]
              have HP8 : Hid (P3 32 32 W5 wr pb (w.heap.size + 1) vs P rv ev bv cv #[rv, ev, bv, cv] #[.slice none 0 0, .slice none 0 0, .slice none 0 0, .slice none 0 0]) :=
                hid ⟨HPV.out.below HB3.out, (HB3.out.block _ (lt_of_block HHB.out)).trans HHB.out, HXR.out wr HW3.out, HW3.out, Nat.le_trans HSZ.out HB3.out.size⟩
              have HIO8 : Hid (IO wr pb (.slice (some ⟨w2.heap.size, 0, none⟩) V.length V.length) (V.map (fun v => gvs v (k : Int)))) := hid (by rw [← prt_all]; exact HIO.out)
              have HD : Hid (DB (.slice (some ⟨w2.heap.size, 0, none⟩) V.length V.length) ev ∧ DB (.slice (some ⟨w2.heap.size, 0, none⟩) V.length V.length) bv ∧ DB (.slice (some ⟨w2.heap.size, 0, none⟩) V.length V.length) cv) :=
                hid ⟨(DB.new (v := .slice (some ⟨w2.heap.size, 0, none⟩) V.length V.length) rfl (fun x hx => (World.ownsRow.lt HPV.out.rel x hx).2)).symm, (DB.new (v := .slice (some ⟨w2.heap.size, 0, none⟩) V.length V.length) rfl (fun x hx => (World.ownsRow.lt HPV.out.b x hx).2)).symm, (DB.new (v := .slice (some ⟨w2.heap.size, 0, none⟩) V.length V.length) rfl (fun x hx => (World.ownsRow.lt HPV.out.c x hx).2)).symm⟩
              have HVP : Hid (w.heap.size + 1 ≠ pb) := hid (by have := HX4P.out; omega)
              clear HIO HB3 HW3 HPV HHB HBL HSZ hwn hwn2
              go_wp2_with fail
              generalize V.map (fun v => gvs v (k : Int)) = LU at *
              generalize rgt V x (k : Int) = rz at *
              generalize wr = Wz at *
              have HS := hid (fun (Y : World) (b1 : Y.heap[pb]? = some (.cells #[rv, ev, bv, cv] 32 (0, 0))) (b2 : Y.heap[w.heap.size + 1]? = some (.cells #[.slice none 0 0, .slice none 0 0, .slice none 0 0, .slice none 0 0] 32 (0, 0))) => show (Y.cell? ⟨pb, 0, none⟩ = some rv ∧ Y.cell? ⟨pb, 1, none⟩ = some ev ∧ Y.cell? ⟨pb, 2, none⟩ = some bv) from ⟨ibx b1 0 _ rfl, ibx b1 1 _ rfl, ibx b1 2 _ rfl⟩)
              have hP0 := HP8.out.drew
              have io0 := HIO8.out.drewK
              clear HP8 HIO8
              refine wp_region_noPanic ?_
              refine region_split (S := fun Y => Y.cell? ⟨pb, 0, none⟩ = some rv ∧ Y.cell? ⟨pb, 1, none⟩ = some ev ∧ Y.cell? ⟨pb, 2, none⟩ = some bv) (late := fun j => Nat.ble 15 j) (k := 4) (m := 5) (last := #[true, true, true, true, true, true, true, true, true, true, true, true, true, true, true, false, false, false, false, false]) (mask := #[false, false, false, false, false, false, false, false, false, false, false, false, false, false, false, true, true, true, true, true]) (by kernel_rfl) (by kernel_rfl) (by kernel_rfl) (by kernel_rfl) 15 (by kernel_rfl) (HS.out _ hP0.box hP0.vbx) (fun hHeld => ?_)
              generalize Wz.drew = R0 at *
              refine wpAnyH_take (i := 0) (v := ?_) rfl (by kernel_rfl) (by kernel_rfl) (by kernel_rfl) (fun _ _ _ h => h) (Or.inl ⟨by rfl, ?_⟩) (by assumption) ?_
              rotate_left
              · intro w hSw
                (try dsimp only at hSw)
                go_simp
                (try with_reducible rfl)
              (try simp only [List.getElem_toArray, List.getElem_cons_zero, List.getElem_cons_succ, Act.put, List.setIfInBounds_toArray, List.set_cons_zero, List.set_cons_succ])
              refine wpAnyH_take (i := 1) (v := ?_) rfl (by kernel_rfl) (by kernel_rfl) (by kernel_rfl) (fun _ _ _ h => h) (Or.inl ⟨by rfl, ?_⟩) (by assumption) ?_
              rotate_left
              · intro w hSw
                (try dsimp only at hSw)
                go_simp
                (try with_reducible rfl)
              (try simp only [List.getElem_toArray, List.getElem_cons_zero, List.getElem_cons_succ, Act.put, List.setIfInBounds_toArray, List.set_cons_zero, List.set_cons_succ])
              refine wpAnyH_take (i := 2) (v := ?_) rfl (by kernel_rfl) (by kernel_rfl) (by kernel_rfl) (fun _ _ _ h => h) (Or.inl ⟨by rfl, ?_⟩) (by assumption) ?_
              rotate_left
              · intro w hSw
                (try dsimp only at hSw)
                go_simp
                (try with_reducible rfl)
              (try simp only [List.getElem_toArray, List.getElem_cons_zero, List.getElem_cons_succ, Act.put, List.setIfInBounds_toArray, List.set_cons_zero, List.set_cons_succ])
              refine wpAnyH_take (i := 5) (v := ?_) rfl (by kernel_rfl) (by kernel_rfl) (by kernel_rfl) (fun _ _ _ h => h) (Or.inl ⟨by rfl, ?_⟩) (by assumption) ?_
              rotate_left
              · intro w hSw
                (try dsimp only at hSw)
                go_simp
                (try with_reducible rfl)
              (try simp only [List.getElem_toArray, List.getElem_cons_zero, List.getElem_cons_succ, Act.put, List.setIfInBounds_toArray, List.set_cons_zero, List.set_cons_succ])
              refine wpAnyH_take (i := 6) (v := ?_) rfl (by kernel_rfl) (by kernel_rfl) (by kernel_rfl) (fun _ _ _ h => h) (Or.inl ⟨by rfl, ?_⟩) (by assumption) ?_
              rotate_left
              · intro w hSw
                (try dsimp only at hSw)
                go_simp
                (try with_reducible rfl)
              (try simp only [List.getElem_toArray, List.getElem_cons_zero, List.getElem_cons_succ, Act.put, List.setIfInBounds_toArray, List.set_cons_zero, List.set_cons_succ])
              refine wpAnyH_take (i := 9) (v := ?_) rfl (by kernel_rfl) (by kernel_rfl) (by kernel_rfl) (fun _ _ _ h => h) (Or.inl ⟨by rfl, ?_⟩) (by assumption) ?_
              rotate_left
              · intro w hSw
                (try dsimp only at hSw)
                go_simp
                (try with_reducible rfl)
              (try simp only [List.getElem_toArray, List.getElem_cons_zero, List.getElem_cons_succ, Act.put, List.setIfInBounds_toArray, List.set_cons_zero, List.set_cons_succ])
              refine wpAnyH_take (i := 10) (v := ?_) rfl (by kernel_rfl) (by kernel_rfl) (by kernel_rfl) (fun _ _ _ h => h) (Or.inl ⟨by rfl, ?_⟩) (by assumption) ?_
              rotate_left
              · intro w hSw
                (try dsimp only at hSw)
                go_simp
                (try with_reducible rfl)
              (try simp only [List.getElem_toArray, List.getElem_cons_zero, List.getElem_cons_succ, Act.put, List.setIfInBounds_toArray, List.set_cons_zero, List.set_cons_succ])
              refine wpAnyH_take (i := 11) (v := ?_) rfl (by kernel_rfl) (by kernel_rfl) (by kernel_rfl) (fun _ _ _ h => h) (Or.inl ⟨by rfl, ?_⟩) (by assumption) ?_
              rotate_left
              · intro w hSw
                (try dsimp only at hSw)
                go_simp
                (try with_reducible rfl)
              (try simp only [List.getElem_toArray, List.getElem_cons_zero, List.getElem_cons_succ, Act.put, List.setIfInBounds_toArray, List.set_cons_zero, List.set_cons_succ])
              refine wpAnyH_ready (rs := [3, 7, 12]) (by kernel_rfl) (by simp) ?_
              refine AllReadyH.cons (o := _) rfl (fun Kc hKc => ?_) (AllReadyH.cons (o := _) rfl (fun Kc hKc => ?_) (AllReadyH.cons (o := _) rfl (fun Kc hKc => ?_) (AllReadyH.nil)))
              · go_simp
                refine hKc.out _ _ (HS.out _ (hP0.alloc _).box (hP0.alloc _).vbx) (fun hHeld => ?_)
                clear hKc Kc
                (try simp only [List.getElem_toArray, List.getElem_cons_zero, List.getElem_cons_succ, Act.put, List.setIfInBounds_toArray, List.set_cons_zero, List.set_cons_succ])
                have hP1 := hP0.alloc (Obj.cells #[(Value.slice (some ⟨w2.heap.size, 0, none⟩) V.length V.length)] 26)
                have p0_1 := Pd.new hP0 26 ((Value.slice (some ⟨w2.heap.size, 0, none⟩) V.length V.length))
                have io1 : IO (R0.alloc (Obj.cells #[(Value.slice (some ⟨w2.heap.size, 0, none⟩) V.length V.length)] 26)) pb (Value.slice (some ⟨w2.heap.size, 0, none⟩) V.length V.length) LU := World.ownsRow.alloc io0 _
                clear io0
                clear hP0
                generalize R0.alloc (Obj.cells #[(Value.slice (some ⟨w2.heap.size, 0, none⟩) V.length V.length)] 26) = R1 at *
                generalize R0.heap.size = g0 at *
                refine wpAnyH_ready (rs := [4, 7, 12]) (by kernel_rfl) (by simp) ?_
                refine AllReadyH.cons (o := _) rfl (fun Kc hKc => ?_) (AllReadyH.cons (o := _) rfl (fun Kc hKc => ?_) (AllReadyH.cons (o := _) rfl (fun Kc hKc => ?_) (AllReadyH.nil)))
                · refine step_append_at rfl _ _ 30 rfl pb 26 j0 (.slice none 0 0) 1 24 Try.underlying30 hj0 jz0 jz1 jz2 rfl (by decide) rv P.rows.length vs rfl hP1.pv.rows ⟨g0, 0, none⟩ 1 1 [(Value.slice (some ⟨w2.heap.size, 0, none⟩) V.length V.length)] rfl rfl p0_1.news (by intro u hu; simp at hu; subst hu; rfl) (by unfold maxLen; omega) (by omega) hP1.sz ?_
                  intro v0 R2 o0 hg0 hat0
                  obtain ⟨qa0, qc0, rfl⟩ := kown_form o0
                  have hP2 := hP1.pr (by decide) (by decide) (L := LU) io1 HD.out.1 HD.out.2.1 HD.out.2.2 o0 hg0
                  clear io1
                  clear p0_1 o0 hg0 hat0 hP1
                  refine hKc.out _ _ (HS.out _ hP2.box hP2.vbx) (fun hHeld => ?_)
                  clear hKc Kc
                  (try simp only [List.getElem_toArray, List.getElem_cons_zero, List.getElem_cons_succ, Act.put, List.setIfInBounds_toArray, List.set_cons_zero, List.set_cons_succ])
                  refine wpAnyH_take (i := 14) (v := ?_) rfl (by kernel_rfl) (by kernel_rfl) (by kernel_rfl) (fun _ _ _ h => h) (Or.inl ⟨by rfl, ?_⟩) (by assumption) ?_
                  rotate_left
                  · intro w hSw
                    (try dsimp only at hSw)
                    go_simp
                    (try with_reducible rfl)
                  (try simp only [List.getElem_toArray, List.getElem_cons_zero, List.getElem_cons_succ, Act.put, List.setIfInBounds_toArray, List.set_cons_zero, List.set_cons_succ])
                  refine wpAnyH_ready (rs := [7, 12]) (by kernel_rfl) (by simp) ?_
                  refine AllReadyH.cons (o := _) rfl (fun Kc hKc => ?_) (AllReadyH.cons (o := _) rfl (fun Kc hKc => ?_) (AllReadyH.nil))
                  · go_simp
                    refine hKc.out _ _ (HS.out _ (hP2.alloc _).box (hP2.alloc _).vbx) (fun hHeld => ?_)
                    clear hKc Kc
                    (try simp only [List.getElem_toArray, List.getElem_cons_zero, List.getElem_cons_succ, Act.put, List.setIfInBounds_toArray, List.set_cons_zero, List.set_cons_succ])
                    have hP3 := hP2.alloc (Obj.cells #[.int .i64 0] 3)
                    have p1_3 := Pd.new hP2 3 (.int .i64 0)
                    clear hP2
                    generalize R2.alloc (Obj.cells #[.int .i64 0] 3) = R3 at *
                    generalize R2.heap.size = g1 at *
                    refine wpAnyH_ready (rs := [8, 12]) (by kernel_rfl) (by simp) ?_
                    refine AllReadyH.cons (o := _) rfl (fun Kc hKc => ?_) (AllReadyH.cons (o := _) rfl (fun Kc hKc => ?_) (AllReadyH.nil))
                    · refine step_append_at rfl _ _ 26 rfl pb 3 i0 (.int .i64 0) 1 8 Try.underlying26 hi0 iz0 iz1 iz2 rfl (by decide) ev P.rel.length (intV P.rel) rfl hP3.pv.rel ⟨g1, 0, none⟩ 1 1 [.int .i64 0] rfl rfl p1_3.news (by intro u hu; simp at hu; subst hu; rfl) (by unfold maxLen; omega) (by omega) hP3.sz ?_
                      intro v1 R4 o1 hg1 hat1
                      obtain ⟨qa1, qc1, rfl⟩ := kown_form o1
                      have hP4 := hP3.pe (by decide) (by decide) o1 hg1 hat1
                      clear p1_3 o1 hg1 hat1 hP3
                      refine hKc.out _ _ (HS.out _ hP4.box hP4.vbx) (fun hHeld => ?_)
                      clear hKc Kc
                      (try simp only [List.getElem_toArray, List.getElem_cons_zero, List.getElem_cons_succ, Act.put, List.setIfInBounds_toArray, List.set_cons_zero, List.set_cons_succ])
                      refine wpAnyH_ready (rs := [12]) (by kernel_rfl) (by simp) ?_
                      refine AllReadyH.cons (o := _) rfl (fun Kc hKc => ?_) (AllReadyH.nil)
                      · go_simp
                        refine hKc.out _ _ (HS.out _ (hP4.alloc _).box (hP4.alloc _).vbx) (fun hHeld => ?_)
                        clear hKc Kc
                        (try simp only [List.getElem_toArray, List.getElem_cons_zero, List.getElem_cons_succ, Act.put, List.setIfInBounds_toArray, List.set_cons_zero, List.set_cons_succ])
                        have hP5 := hP4.alloc (Obj.cells #[.int .i64 rz] 3)
                        have p2_5 := Pd.new hP4 3 (.int .i64 rz)
                        clear hP4
                        generalize R4.alloc (Obj.cells #[.int .i64 rz] 3) = R5 at *
                        generalize R4.heap.size = g2 at *
                        refine wpAnyH_ready (rs := [13]) (by kernel_rfl) (by simp) ?_
                        refine AllReadyH.cons (o := _) rfl (fun Kc hKc => ?_) (AllReadyH.nil)
                        · refine step_append_at rfl _ _ 26 rfl pb 3 i0 (.int .i64 0) 1 8 Try.underlying26 hi0 iz0 iz1 iz2 rfl (by decide) bv P.b.length (intV P.b) rfl hP5.pv.b ⟨g2, 0, none⟩ 1 1 [.int .i64 rz] rfl rfl p2_5.news (by intro u hu; simp at hu; subst hu; rfl) (by unfold maxLen; omega) (by omega) hP5.sz ?_
                          intro v2 R6 o2 hg2 hat2
                          obtain ⟨qa2, qc2, rfl⟩ := kown_form o2
                          have hP6 := hP5.pb_ (by decide) (by decide) o2 hg2 hat2
                          clear p2_5 o2 hg2 hat2 hP5
                          refine hKc.out _ _ (HS.out _ hP6.box hP6.vbx) (fun hHeld => ?_)
                          clear hKc Kc
                          (try simp only [List.getElem_toArray, List.getElem_cons_zero, List.getElem_cons_succ, Act.put, List.setIfInBounds_toArray, List.set_cons_zero, List.set_cons_succ])
                          refine wpAnyH_done (by kernel_rfl) ?_ _
                          intro r
                          have b6 := hP6.box
                          have b7 : (R6.setCell ⟨pb, 0, none⟩ (.slice qa0 (P.rows.length + 1) qc0)).heap[pb]? = some (.cells #[.slice qa0 (P.rows.length + 1) qc0, ev, bv, cv] 32 (0, 0)) := by simpa using set_at (L := [rv, ev, bv, cv]) (k := 0) (v := .slice qa0 (P.rows.length + 1) qc0) b6
                          have b8 : ((R6.setCell ⟨pb, 0, none⟩ (.slice qa0 (P.rows.length + 1) qc0)).setCell ⟨pb, 1, none⟩ (.slice qa1 (P.rel.length + 1) qc1)).heap[pb]? = some (.cells #[.slice qa0 (P.rows.length + 1) qc0, .slice qa1 (P.rel.length + 1) qc1, bv, cv] 32 (0, 0)) := by simpa using set_at (L := [.slice qa0 (P.rows.length + 1) qc0, ev, bv, cv]) (k := 1) (v := .slice qa1 (P.rel.length + 1) qc1) b7
                          have b9 : (((R6.setCell ⟨pb, 0, none⟩ (.slice qa0 (P.rows.length + 1) qc0)).setCell ⟨pb, 1, none⟩ (.slice qa1 (P.rel.length + 1) qc1)).setCell ⟨pb, 2, none⟩ (.slice qa2 (P.b.length + 1) qc2)).heap[pb]? = some (.cells #[.slice qa0 (P.rows.length + 1) qc0, .slice qa1 (P.rel.length + 1) qc1, .slice qa2 (P.b.length + 1) qc2, cv] 32 (0, 0)) := by simpa using set_at (L := [.slice qa0 (P.rows.length + 1) qc0, .slice qa1 (P.rel.length + 1) qc1, bv, cv]) (k := 2) (v := .slice qa2 (P.b.length + 1) qc2) b8
                          have c60 := ibx b6 0 rv rfl
                          have f60 := free_at (L := [rv, ev, bv, cv]) b6 0
                          have c61 := ibx b6 1 ev rfl
                          have f61 := free_at (L := [rv, ev, bv, cv]) b6 1
                          have c62 := ibx b6 2 bv rfl
                          have f62 := free_at (L := [rv, ev, bv, cv]) b6 2
                          have h9 := ((hP6.pv.set (i := 0) b6 (by decide) (by decide) (.slice qa0 (P.rows.length + 1) qc0)).set (i := 1) b7 (by decide) (by decide) (.slice qa1 (P.rel.length + 1) qc1)).set (i := 2) b8 (by decide) (by decide) (.slice qa2 (P.b.length + 1) qc2)
                          have B9 : Below pb W5 (((R6.setCell ⟨pb, 0, none⟩ (.slice qa0 (P.rows.length + 1) qc0)).setCell ⟨pb, 1, none⟩ (.slice qa1 (P.rel.length + 1) qc1)).setCell ⟨pb, 2, none⟩ (.slice qa2 (P.b.length + 1) qc2)) := ((hP6.bel.setCell (p := ⟨pb, 0, none⟩) (Nat.le_refl _) _).setCell (p := ⟨pb, 1, none⟩) (Nat.le_refl _) _).setCell (p := ⟨pb, 2, none⟩) (Nat.le_refl _) _
                          have x9 : (((R6.setCell ⟨pb, 0, none⟩ (.slice qa0 (P.rows.length + 1) qc0)).setCell ⟨pb, 1, none⟩ (.slice qa1 (P.rel.length + 1) qc1)).setCell ⟨pb, 2, none⟩ (.slice qa2 (P.b.length + 1) qc2)).heap[w.heap.size + 1]? = some (.cells #[.slice none 0 0, .slice none 0 0, .slice none 0 0, .slice none 0 0] 32 (0, 0)) := by
                            rw [Below.heap_setCell _ _ _ _ HVP.out, Below.heap_setCell _ _ _ _ HVP.out, Below.heap_setCell _ _ _ _ HVP.out]
                            exact hP6.vbx
                          have s9 : pb ≤ (((R6.setCell ⟨pb, 0, none⟩ (.slice qa0 (P.rows.length + 1) qc0)).setCell ⟨pb, 1, none⟩ (.slice qa1 (P.rel.length + 1) qc1)).setCell ⟨pb, 2, none⟩ (.slice qa2 (P.b.length + 1) qc2)).heap.size := by simpa [World.setCell] using hP6.sz
                          clear hP6 b6 b7 b8 hHeld
                          refine wpAny_ready (rs := [15]) (by kernel_rfl) (by simp) ?_
                          refine AllReady.cons (o := _) rfl (fun Kc hKc => ?_) AllReady.nil
                          go_simp
                          refine hKc _ _ ?_
                          clear hKc Kc
                          (try simp only [List.getElem_toArray, List.getElem_cons_zero, List.getElem_cons_succ, Act.put, List.setIfInBounds_toArray, List.set_cons_zero, List.set_cons_succ])
                          refine wpAny_ready (rs := [16]) (by kernel_rfl) (by simp) ?_
                          refine AllReady.cons (o := _) rfl (fun Kc hKc => ?_) AllReady.nil
                          go_simp
                          refine hKc _ _ ?_
                          clear hKc Kc
                          (try simp only [List.getElem_toArray, List.getElem_cons_zero, List.getElem_cons_succ, Act.put, List.setIfInBounds_toArray, List.set_cons_zero, List.set_cons_succ])
                          refine wpAny_ready (rs := [17]) (by kernel_rfl) (by simp) ?_
                          refine AllReady.cons (o := _) rfl (fun Kc hKc => ?_) AllReady.nil
                          go_simp
                          refine hKc _ _ ?_
                          clear hKc Kc
                          (try simp only [List.getElem_toArray, List.getElem_cons_zero, List.getElem_cons_succ, Act.put, List.setIfInBounds_toArray, List.set_cons_zero, List.set_cons_succ])
                          refine wpAny_ready (rs := [18]) (by kernel_rfl) (by simp) ?_
                          refine AllReady.cons (o := _) rfl (fun Kc hKc => ?_) AllReady.nil
                          go_simp
                          refine hKc _ _ ?_
                          clear hKc Kc
                          (try simp only [List.getElem_toArray, List.getElem_cons_zero, List.getElem_cons_succ, Act.put, List.setIfInBounds_toArray, List.set_cons_zero, List.set_cons_succ])
                          refine wpAny_ready (rs := [19]) (by kernel_rfl) (by simp) ?_
                          refine AllReady.cons (o := _) rfl (fun Kc hKc => ?_) AllReady.nil
                          go_simp
                          refine hKc _ _ ?_
                          clear hKc Kc
                          (try simp only [List.getElem_toArray, List.getElem_cons_zero, List.getElem_cons_succ, Act.put, List.setIfInBounds_toArray, List.set_cons_zero, List.set_cons_succ])
                          refine wpAny_done (by kernel_rfl) ?_ _
                          refine NoPanic.normal ?_
                          clear c60 f60 c61 f61 c62 f62
                          generalize ((R6.setCell ⟨pb, 0, none⟩ (.slice qa0 (P.rows.length + 1) qc0)).setCell ⟨pb, 1, none⟩ (.slice qa1 (P.rel.length + 1) qc1)).setCell ⟨pb, 2, none⟩ (.slice qa2 (P.b.length + 1) qc2) = W9 at *
                          have HBX9 : Hid (Bx W9 W5 pb (P2 V net (k + 1))) := hid ⟨_, _, _, _, _, b9, by rw [HPS.out]; exact h9, B9, s9⟩
                          clear h9 b9 x9 B9 s9
                          go_wp2_with fail
                          go_roundw
                          case rel => exact ⟨k + 1, by omega, by go_num, HBX9⟩
                          case measure => simp [intOf]; omega
                    · go_simp
                      refine hKc.out _ _ (HS.out _ (hP3.alloc _).box (hP3.alloc _).vbx) (fun hHeld => ?_)
                      clear hKc Kc
                      (try simp only [List.getElem_toArray, List.getElem_cons_zero, List.getElem_cons_succ, Act.put, List.setIfInBounds_toArray, List.set_cons_zero, List.set_cons_succ])
                      have hP4 := hP3.alloc (Obj.cells #[.int .i64 rz] 3)
                      have p2_4 := Pd.new hP3 3 (.int .i64 rz)
                      have p1_4 := p1_3.alloc (Obj.cells #[.int .i64 rz] 3)
                      clear p1_3
                      clear hP3
                      generalize R3.alloc (Obj.cells #[.int .i64 rz] 3) = R4 at *
                      generalize R3.heap.size = g2 at *
                      refine wpAnyH_ready (rs := [8]) (by kernel_rfl) (by simp) ?_
                      refine AllReadyH.cons (o := _) rfl (fun Kc hKc => ?_) (AllReadyH.nil)
                      · refine step_append_at rfl _ _ 26 rfl pb 3 i0 (.int .i64 0) 1 8 Try.underlying26 hi0 iz0 iz1 iz2 rfl (by decide) ev P.rel.length (intV P.rel) rfl hP4.pv.rel ⟨g1, 0, none⟩ 1 1 [.int .i64 0] rfl rfl p1_4.news (by intro u hu; simp at hu; subst hu; rfl) (by unfold maxLen; omega) (by omega) hP4.sz ?_
                        intro v1 R5 o1 hg1 hat1
                        obtain ⟨qa1, qc1, rfl⟩ := kown_form o1
                        have hP5 := hP4.pe (by decide) (by decide) o1 hg1 hat1
                        have p2_5 := p2_4.ge hg1 hat1
                        clear p2_4
                        clear p1_4 o1 hg1 hat1 hP4
                        refine hKc.out _ _ (HS.out _ hP5.box hP5.vbx) (fun hHeld => ?_)
                        clear hKc Kc
                        (try simp only [List.getElem_toArray, List.getElem_cons_zero, List.getElem_cons_succ, Act.put, List.setIfInBounds_toArray, List.set_cons_zero, List.set_cons_succ])
                        refine wpAnyH_ready (rs := [13]) (by kernel_rfl) (by simp) ?_
                        refine AllReadyH.cons (o := _) rfl (fun Kc hKc => ?_) (AllReadyH.nil)
                        · refine step_append_at rfl _ _ 26 rfl pb 3 i0 (.int .i64 0) 1 8 Try.underlying26 hi0 iz0 iz1 iz2 rfl (by decide) bv P.b.length (intV P.b) rfl hP5.pv.b ⟨g2, 0, none⟩ 1 1 [.int .i64 rz] rfl rfl p2_5.news (by intro u hu; simp at hu; subst hu; rfl) (by unfold maxLen; omega) (by omega) hP5.sz ?_
                          intro v2 R6 o2 hg2 hat2
                          obtain ⟨qa2, qc2, rfl⟩ := kown_form o2
                          have hP6 := hP5.pb_ (by decide) (by decide) o2 hg2 hat2
                          clear p2_5 o2 hg2 hat2 hP5
                          refine hKc.out _ _ (HS.out _ hP6.box hP6.vbx) (fun hHeld => ?_)
                          clear hKc Kc
                          (try simp only [List.getElem_toArray, List.getElem_cons_zero, List.getElem_cons_succ, Act.put, List.setIfInBounds_toArray, List.set_cons_zero, List.set_cons_succ])
                          refine wpAnyH_done (by kernel_rfl) ?_ _
                          intro r
                          have b6 := hP6.box
                          have b7 : (R6.setCell ⟨pb, 0, none⟩ (.slice qa0 (P.rows.length + 1) qc0)).heap[pb]? = some (.cells #[.slice qa0 (P.rows.length + 1) qc0, ev, bv, cv] 32 (0, 0)) := by simpa using set_at (L := [rv, ev, bv, cv]) (k := 0) (v := .slice qa0 (P.rows.length + 1) qc0) b6
                          have b8 : ((R6.setCell ⟨pb, 0, none⟩ (.slice qa0 (P.rows.length + 1) qc0)).setCell ⟨pb, 1, none⟩ (.slice qa1 (P.rel.length + 1) qc1)).heap[pb]? = some (.cells #[.slice qa0 (P.rows.length + 1) qc0, .slice qa1 (P.rel.length + 1) qc1, bv, cv] 32 (0, 0)) := by simpa using set_at (L := [.slice qa0 (P.rows.length + 1) qc0, ev, bv, cv]) (k := 1) (v := .slice qa1 (P.rel.length + 1) qc1) b7
                          have b9 : (((R6.setCell ⟨pb, 0, none⟩ (.slice qa0 (P.rows.length + 1) qc0)).setCell ⟨pb, 1, none⟩ (.slice qa1 (P.rel.length + 1) qc1)).setCell ⟨pb, 2, none⟩ (.slice qa2 (P.b.length + 1) qc2)).heap[pb]? = some (.cells #[.slice qa0 (P.rows.length + 1) qc0, .slice qa1 (P.rel.length + 1) qc1, .slice qa2 (P.b.length + 1) qc2, cv] 32 (0, 0)) := by simpa using set_at (L := [.slice qa0 (P.rows.length + 1) qc0, .slice qa1 (P.rel.length + 1) qc1, bv, cv]) (k := 2) (v := .slice qa2 (P.b.length + 1) qc2) b8
                          have c60 := ibx b6 0 rv rfl
                          have f60 := free_at (L := [rv, ev, bv, cv]) b6 0
                          have c61 := ibx b6 1 ev rfl
                          have f61 := free_at (L := [rv, ev, bv, cv]) b6 1
                          have c62 := ibx b6 2 bv rfl
                          have f62 := free_at (L := [rv, ev, bv, cv]) b6 2
                          have h9 := ((hP6.pv.set (i := 0) b6 (by decide) (by decide) (.slice qa0 (P.rows.length + 1) qc0)).set (i := 1) b7 (by decide) (by decide) (.slice qa1 (P.rel.length + 1) qc1)).set (i := 2) b8 (by decide) (by decide) (.slice qa2 (P.b.length + 1) qc2)
                          have B9 : Below pb W5 (((R6.setCell ⟨pb, 0, none⟩ (.slice qa0 (P.rows.length + 1) qc0)).setCell ⟨pb, 1, none⟩ (.slice qa1 (P.rel.length + 1) qc1)).setCell ⟨pb, 2, none⟩ (.slice qa2 (P.b.length + 1) qc2)) := ((hP6.bel.setCell (p := ⟨pb, 0, none⟩) (Nat.le_refl _) _).setCell (p := ⟨pb, 1, none⟩) (Nat.le_refl _) _).setCell (p := ⟨pb, 2, none⟩) (Nat.le_refl _) _
                          have x9 : (((R6.setCell ⟨pb, 0, none⟩ (.slice qa0 (P.rows.length + 1) qc0)).setCell ⟨pb, 1, none⟩ (.slice qa1 (P.rel.length + 1) qc1)).setCell ⟨pb, 2, none⟩ (.slice qa2 (P.b.length + 1) qc2)).heap[w.heap.size + 1]? = some (.cells #[.slice none 0 0, .slice none 0 0, .slice none 0 0, .slice none 0 0] 32 (0, 0)) := by
                            rw [Below.heap_setCell _ _ _ _ HVP.out, Below.heap_setCell _ _ _ _ HVP.out, Below.heap_setCell _ _ _ _ HVP.out]
                            exact hP6.vbx
                          have s9 : pb ≤ (((R6.setCell ⟨pb, 0, none⟩ (.slice qa0 (P.rows.length + 1) qc0)).setCell ⟨pb, 1, none⟩ (.slice qa1 (P.rel.length + 1) qc1)).setCell ⟨pb, 2, none⟩ (.slice qa2 (P.b.length + 1) qc2)).heap.size := by simpa [World.setCell] using hP6.sz
                          clear hP6 b6 b7 b8 hHeld
                          refine wpAny_ready (rs := [15]) (by kernel_rfl) (by simp) ?_
                          refine AllReady.cons (o := _) rfl (fun Kc hKc => ?_) AllReady.nil
                          go_simp
                          refine hKc _ _ ?_
                          clear hKc Kc
                          (try simp only [List.getElem_toArray, List.getElem_cons_zero, List.getElem_cons_succ, Act.put, List.setIfInBounds_toArray, List.set_cons_zero, List.set_cons_succ])
                          refine wpAny_ready (rs := [16]) (by kernel_rfl) (by simp) ?_
                          refine AllReady.cons (o := _) rfl (fun Kc hKc => ?_) AllReady.nil
                          go_simp
                          refine hKc _ _ ?_
                          clear hKc Kc
                          (try simp only [List.getElem_toArray, List.getElem_cons_zero, List.getElem_cons_succ, Act.put, List.setIfInBounds_toArray, List.set_cons_zero, List.set_cons_succ])
                          refine wpAny_ready (rs := [17]) (by kernel_rfl) (by simp) ?_
                          refine AllReady.cons (o := _) rfl (fun Kc hKc => ?_) AllReady.nil
                          go_simp
                          refine hKc _ _ ?_
                          clear hKc Kc
                          (try simp only [List.getElem_toArray, List.getElem_cons_zero, List.getElem_cons_succ, Act.put, List.setIfInBounds_toArray, List.set_cons_zero, List.set_cons_succ])
                          refine wpAny_ready (rs := [18]) (by kernel_rfl) (by simp) ?_
                          refine AllReady.cons (o := _) rfl (fun Kc hKc => ?_) AllReady.nil
                          go_simp
                          refine hKc _ _ ?_
                          clear hKc Kc
                          (try simp only [List.getElem_toArray, List.getElem_cons_zero, List.getElem_cons_succ, Act.put, List.setIfInBounds_toArray, List.set_cons_zero, List.set_cons_succ])
                          refine wpAny_ready (rs := [19]) (by kernel_rfl) (by simp) ?_
                          refine AllReady.cons (o := _) rfl (fun Kc hKc => ?_) AllReady.nil
                          go_simp
                          refine hKc _ _ ?_
                          clear hKc Kc
                          (try simp only [List.getElem_toArray, List.getElem_cons_zero, List.getElem_cons_succ, Act.put, List.setIfInBounds_toArray, List.set_cons_zero, List.set_cons_succ])
                          refine wpAny_done (by kernel_rfl) ?_ _
                          refine NoPanic.normal ?_
                          clear c60 f60 c61 f61 c62 f62
                          generalize ((R6.setCell ⟨pb, 0, none⟩ (.slice qa0 (P.rows.length + 1) qc0)).setCell ⟨pb, 1, none⟩ (.slice qa1 (P.rel.length + 1) qc1)).setCell ⟨pb, 2, none⟩ (.slice qa2 (P.b.length + 1) qc2) = W9 at *
                          have HBX9 : Hid (Bx W9 W5 pb (P2 V net (k + 1))) := hid ⟨_, _, _, _, _, b9, by rw [HPS.out]; exact h9, B9, s9⟩
                          clear h9 b9 x9 B9 s9
                          go_wp2_with fail
                          go_roundw
                          case rel => exact ⟨k + 1, by omega, by go_num, HBX9⟩
                          case measure => simp [intOf]; omega
                  · go_simp
                    refine hKc.out _ _ (HS.out _ (hP2.alloc _).box (hP2.alloc _).vbx) (fun hHeld => ?_)
                    clear hKc Kc
                    (try simp only [List.getElem_toArray, List.getElem_cons_zero, List.getElem_cons_succ, Act.put, List.setIfInBounds_toArray, List.set_cons_zero, List.set_cons_succ])
                    have hP3 := hP2.alloc (Obj.cells #[.int .i64 rz] 3)
                    have p2_3 := Pd.new hP2 3 (.int .i64 rz)
                    clear hP2
                    generalize R2.alloc (Obj.cells #[.int .i64 rz] 3) = R3 at *
                    generalize R2.heap.size = g2 at *
                    refine wpAnyH_ready (rs := [7]) (by kernel_rfl) (by simp) ?_
                    refine AllReadyH.cons (o := _) rfl (fun Kc hKc => ?_) (AllReadyH.nil)
                    · go_simp
                      refine hKc.out _ _ (HS.out _ (hP3.alloc _).box (hP3.alloc _).vbx) (fun hHeld => ?_)
                      clear hKc Kc
                      (try simp only [List.getElem_toArray, List.getElem_cons_zero, List.getElem_cons_succ, Act.put, List.setIfInBounds_toArray, List.set_cons_zero, List.set_cons_succ])
                      have hP4 := hP3.alloc (Obj.cells #[.int .i64 0] 3)
                      have p1_4 := Pd.new hP3 3 (.int .i64 0)
                      have p2_4 := p2_3.alloc (Obj.cells #[.int .i64 0] 3)
                      clear p2_3
                      clear hP3
                      generalize R3.alloc (Obj.cells #[.int .i64 0] 3) = R4 at *
                      generalize R3.heap.size = g1 at *
                      refine wpAnyH_ready (rs := [8]) (by kernel_rfl) (by simp) ?_
                      refine AllReadyH.cons (o := _) rfl (fun Kc hKc => ?_) (AllReadyH.nil)
                      · refine step_append_at rfl _ _ 26 rfl pb 3 i0 (.int .i64 0) 1 8 Try.underlying26 hi0 iz0 iz1 iz2 rfl (by decide) ev P.rel.length (intV P.rel) rfl hP4.pv.rel ⟨g1, 0, none⟩ 1 1 [.int .i64 0] rfl rfl p1_4.news (by intro u hu; simp at hu; subst hu; rfl) (by unfold maxLen; omega) (by omega) hP4.sz ?_
                        intro v1 R5 o1 hg1 hat1
                        obtain ⟨qa1, qc1, rfl⟩ := kown_form o1
                        have hP5 := hP4.pe (by decide) (by decide) o1 hg1 hat1
                        have p2_5 := p2_4.ge hg1 hat1
                        clear p2_4
                        clear p1_4 o1 hg1 hat1 hP4
                        refine hKc.out _ _ (HS.out _ hP5.box hP5.vbx) (fun hHeld => ?_)
                        clear hKc Kc
                        (try simp only [List.getElem_toArray, List.getElem_cons_zero, List.getElem_cons_succ, Act.put, List.setIfInBounds_toArray, List.set_cons_zero, List.set_cons_succ])
                        refine wpAnyH_ready (rs := [13]) (by kernel_rfl) (by simp) ?_
                        refine AllReadyH.cons (o := _) rfl (fun Kc hKc => ?_) (AllReadyH.nil)
                        · refine step_append_at rfl _ _ 26 rfl pb 3 i0 (.int .i64 0) 1 8 Try.underlying26 hi0 iz0 iz1 iz2 rfl (by decide) bv P.b.length (intV P.b) rfl hP5.pv.b ⟨g2, 0, none⟩ 1 1 [.int .i64 rz] rfl rfl p2_5.news (by intro u hu; simp at hu; subst hu; rfl) (by unfold maxLen; omega) (by omega) hP5.sz ?_
                          intro v2 R6 o2 hg2 hat2
                          obtain ⟨qa2, qc2, rfl⟩ := kown_form o2
                          have hP6 := hP5.pb_ (by decide) (by decide) o2 hg2 hat2
                          clear p2_5 o2 hg2 hat2 hP5
                          refine hKc.out _ _ (HS.out _ hP6.box hP6.vbx) (fun hHeld => ?_)
                          clear hKc Kc
                          (try simp only [List.getElem_toArray, List.getElem_cons_zero, List.getElem_cons_succ, Act.put, List.setIfInBounds_toArray, List.set_cons_zero, List.set_cons_succ])
                          refine wpAnyH_done (by kernel_rfl) ?_ _
                          intro r
                          have b6 := hP6.box
                          have b7 : (R6.setCell ⟨pb, 0, none⟩ (.slice qa0 (P.rows.length + 1) qc0)).heap[pb]? = some (.cells #[.slice qa0 (P.rows.length + 1) qc0, ev, bv, cv] 32 (0, 0)) := by simpa using set_at (L := [rv, ev, bv, cv]) (k := 0) (v := .slice qa0 (P.rows.length + 1) qc0) b6
                          have b8 : ((R6.setCell ⟨pb, 0, none⟩ (.slice qa0 (P.rows.length + 1) qc0)).setCell ⟨pb, 1, none⟩ (.slice qa1 (P.rel.length + 1) qc1)).heap[pb]? = some (.cells #[.slice qa0 (P.rows.length + 1) qc0, .slice qa1 (P.rel.length + 1) qc1, bv, cv] 32 (0, 0)) := by simpa using set_at (L := [.slice qa0 (P.rows.length + 1) qc0, ev, bv, cv]) (k := 1) (v := .slice qa1 (P.rel.length + 1) qc1) b7
                          have b9 : (((R6.setCell ⟨pb, 0, none⟩ (.slice qa0 (P.rows.length + 1) qc0)).setCell ⟨pb, 1, none⟩ (.slice qa1 (P.rel.length + 1) qc1)).setCell ⟨pb, 2, none⟩ (.slice qa2 (P.b.length + 1) qc2)).heap[pb]? = some (.cells #[.slice qa0 (P.rows.length + 1) qc0, .slice qa1 (P.rel.length + 1) qc1, .slice qa2 (P.b.length + 1) qc2, cv] 32 (0, 0)) := by simpa using set_at (L := [.slice qa0 (P.rows.length + 1) qc0, .slice qa1 (P.rel.length + 1) qc1, bv, cv]) (k := 2) (v := .slice qa2 (P.b.length + 1) qc2) b8
                          have c60 := ibx b6 0 rv rfl
                          have f60 := free_at (L := [rv, ev, bv, cv]) b6 0
                          have c61 := ibx b6 1 ev rfl
                          have f61 := free_at (L := [rv, ev, bv, cv]) b6 1
                          have c62 := ibx b6 2 bv rfl
                          have f62 := free_at (L := [rv, ev, bv, cv]) b6 2
                          have h9 := ((hP6.pv.set (i := 0) b6 (by decide) (by decide) (.slice qa0 (P.rows.length + 1) qc0)).set (i := 1) b7 (by decide) (by decide) (.slice qa1 (P.rel.length + 1) qc1)).set (i := 2) b8 (by decide) (by decide) (.slice qa2 (P.b.length + 1) qc2)
                          have B9 : Below pb W5 (((R6.setCell ⟨pb, 0, none⟩ (.slice qa0 (P.rows.length + 1) qc0)).setCell ⟨pb, 1, none⟩ (.slice qa1 (P.rel.length + 1) qc1)).setCell ⟨pb, 2, none⟩ (.slice qa2 (P.b.length + 1) qc2)) := ((hP6.bel.setCell (p := ⟨pb, 0, none⟩) (Nat.le_refl _) _).setCell (p := ⟨pb, 1, none⟩) (Nat.le_refl _) _).setCell (p := ⟨pb, 2, none⟩) (Nat.le_refl _) _
                          have x9 : (((R6.setCell ⟨pb, 0, none⟩ (.slice qa0 (P.rows.length + 1) qc0)).setCell ⟨pb, 1, none⟩ (.slice qa1 (P.rel.length + 1) qc1)).setCell ⟨pb, 2, none⟩ (.slice qa2 (P.b.length + 1) qc2)).heap[w.heap.size + 1]? = some (.cells #[.slice none 0 0, .slice none 0 0, .slice none 0 0, .slice none 0 0] 32 (0, 0)) := by
                            rw [Below.heap_setCell _ _ _ _ HVP.out, Below.heap_setCell _ _ _ _ HVP.out, Below.heap_setCell _ _ _ _ HVP.out]
                            exact hP6.vbx
                          have s9 : pb ≤ (((R6.setCell ⟨pb, 0, none⟩ (.slice qa0 (P.rows.length + 1) qc0)).setCell ⟨pb, 1, none⟩ (.slice qa1 (P.rel.length + 1) qc1)).setCell ⟨pb, 2, none⟩ (.slice qa2 (P.b.length + 1) qc2)).heap.size := by simpa [World.setCell] using hP6.sz
                          clear hP6 b6 b7 b8 hHeld
                          refine wpAny_ready (rs := [15]) (by kernel_rfl) (by simp) ?_
                          refine AllReady.cons (o := _) rfl (fun Kc hKc => ?_) AllReady.nil
                          go_simp
                          refine hKc _ _ ?_
                          clear hKc Kc
                          (try simp only [List.getElem_toArray, List.getElem_cons_zero, List.getElem_cons_succ, Act.put, List.setIfInBounds_toArray, List.set_cons_zero, List.set_cons_succ])
                          refine wpAny_ready (rs := [16]) (by kernel_rfl) (by simp) ?_
                          refine AllReady.cons (o := _) rfl (fun Kc hKc => ?_) AllReady.nil
                          go_simp
                          refine hKc _ _ ?_
                          clear hKc Kc
                          (try simp only [List.getElem_toArray, List.getElem_cons_zero, List.getElem_cons_succ, Act.put, List.setIfInBounds_toArray, List.set_cons_zero, List.set_cons_succ])
                          refine wpAny_ready (rs := [17]) (by kernel_rfl) (by simp) ?_
                          refine AllReady.cons (o := _) rfl (fun Kc hKc => ?_) AllReady.nil
                          go_simp
                          refine hKc _ _ ?_
                          clear hKc Kc
                          (try simp only [List.getElem_toArray, List.getElem_cons_zero, List.getElem_cons_succ, Act.put, List.setIfInBounds_toArray, List.set_cons_zero, List.set_cons_succ])
                          refine wpAny_ready (rs := [18]) (by kernel_rfl) (by simp) ?_
                          refine AllReady.cons (o := _) rfl (fun Kc hKc => ?_) AllReady.nil
                          go_simp
                          refine hKc _ _ ?_
                          clear hKc Kc
                          (try simp only [List.getElem_toArray, List.getElem_cons_zero, List.getElem_cons_succ, Act.put, List.setIfInBounds_toArray, List.set_cons_zero, List.set_cons_succ])
                          refine wpAny_ready (rs := [19]) (by kernel_rfl) (by simp) ?_
                          refine AllReady.cons (o := _) rfl (fun Kc hKc => ?_) AllReady.nil
                          go_simp
                          refine hKc _ _ ?_
                          clear hKc Kc
                          (try simp only [List.getElem_toArray, List.getElem_cons_zero, List.getElem_cons_succ, Act.put, List.setIfInBounds_toArray, List.set_cons_zero, List.set_cons_succ])
                          refine wpAny_done (by kernel_rfl) ?_ _
                          refine NoPanic.normal ?_
                          clear c60 f60 c61 f61 c62 f62
                          generalize ((R6.setCell ⟨pb, 0, none⟩ (.slice qa0 (P.rows.length + 1) qc0)).setCell ⟨pb, 1, none⟩ (.slice qa1 (P.rel.length + 1) qc1)).setCell ⟨pb, 2, none⟩ (.slice qa2 (P.b.length + 1) qc2) = W9 at *
                          have HBX9 : Hid (Bx W9 W5 pb (P2 V net (k + 1))) := hid ⟨_, _, _, _, _, b9, by rw [HPS.out]; exact h9, B9, s9⟩
                          clear h9 b9 x9 B9 s9
                          go_wp2_with fail
                          go_roundw
                          case rel => exact ⟨k + 1, by omega, by go_num, HBX9⟩
                          case measure => simp [intOf]; omega
                · go_simp
                  refine hKc.out _ _ (HS.out _ (hP1.alloc _).box (hP1.alloc _).vbx) (fun hHeld => ?_)
                  clear hKc Kc
                  (try simp only [List.getElem_toArray, List.getElem_cons_zero, List.getElem_cons_succ, Act.put, List.setIfInBounds_toArray, List.set_cons_zero, List.set_cons_succ])
                  have hP2 := hP1.alloc (Obj.cells #[.int .i64 0] 3)
                  have p1_2 := Pd.new hP1 3 (.int .i64 0)
                  have p0_2 := p0_1.alloc (Obj.cells #[.int .i64 0] 3)
                  have io2 : IO (R1.alloc (Obj.cells #[.int .i64 0] 3)) pb (Value.slice (some ⟨w2.heap.size, 0, none⟩) V.length V.length) LU := World.ownsRow.alloc io1 _
                  clear io1
                  clear p0_1
                  clear hP1
                  generalize R1.alloc (Obj.cells #[.int .i64 0] 3) = R2 at *
                  generalize R1.heap.size = g1 at *
                  refine wpAnyH_ready (rs := [4, 12]) (by kernel_rfl) (by simp) ?_
                  refine AllReadyH.cons (o := _) rfl (fun Kc hKc => ?_) (AllReadyH.cons (o := _) rfl (fun Kc hKc => ?_) (AllReadyH.nil))
                  · refine step_append_at rfl _ _ 30 rfl pb 26 j0 (.slice none 0 0) 1 24 Try.underlying30 hj0 jz0 jz1 jz2 rfl (by decide) rv P.rows.length vs rfl hP2.pv.rows ⟨g0, 0, none⟩ 1 1 [(Value.slice (some ⟨w2.heap.size, 0, none⟩) V.length V.length)] rfl rfl p0_2.news (by intro u hu; simp at hu; subst hu; rfl) (by unfold maxLen; omega) (by omega) hP2.sz ?_
                    intro v0 R3 o0 hg0 hat0
                    obtain ⟨qa0, qc0, rfl⟩ := kown_form o0
                    have hP3 := hP2.pr (by decide) (by decide) (L := LU) io2 HD.out.1 HD.out.2.1 HD.out.2.2 o0 hg0
                    clear io2
                    have p1_3 := p1_2.gr hg0 hat0
                    clear p1_2
                    clear p0_2 o0 hg0 hat0 hP2
                    refine hKc.out _ _ (HS.out _ hP3.box hP3.vbx) (fun hHeld => ?_)
                    clear hKc Kc
                    (try simp only [List.getElem_toArray, List.getElem_cons_zero, List.getElem_cons_succ, Act.put, List.setIfInBounds_toArray, List.set_cons_zero, List.set_cons_succ])
                    refine wpAnyH_take (i := 14) (v := ?_) rfl (by kernel_rfl) (by kernel_rfl) (by kernel_rfl) (fun _ _ _ h => h) (Or.inl ⟨by rfl, ?_⟩) (by assumption) ?_
                    rotate_left
                    · intro w hSw
                      (try dsimp only at hSw)
                      go_simp
                      (try with_reducible rfl)
                    (try simp only [List.getElem_toArray, List.getElem_cons_zero, List.getElem_cons_succ, Act.put, List.setIfInBounds_toArray, List.set_cons_zero, List.set_cons_succ])
                    refine wpAnyH_ready (rs := [8, 12]) (by kernel_rfl) (by simp) ?_
                    refine AllReadyH.cons (o := _) rfl (fun Kc hKc => ?_) (AllReadyH.cons (o := _) rfl (fun Kc hKc => ?_) (AllReadyH.nil))
                    · refine step_append_at rfl _ _ 26 rfl pb 3 i0 (.int .i64 0) 1 8 Try.underlying26 hi0 iz0 iz1 iz2 rfl (by decide) ev P.rel.length (intV P.rel) rfl hP3.pv.rel ⟨g1, 0, none⟩ 1 1 [.int .i64 0] rfl rfl p1_3.news (by intro u hu; simp at hu; subst hu; rfl) (by unfold maxLen; omega) (by omega) hP3.sz ?_
                      intro v1 R4 o1 hg1 hat1
                      obtain ⟨qa1, qc1, rfl⟩ := kown_form o1
                      have hP4 := hP3.pe (by decide) (by decide) o1 hg1 hat1
                      clear p1_3 o1 hg1 hat1 hP3
                      refine hKc.out _ _ (HS.out _ hP4.box hP4.vbx) (fun hHeld => ?_)
                      clear hKc Kc
                      (try simp only [List.getElem_toArray, List.getElem_cons_zero, List.getElem_cons_succ, Act.put, List.setIfInBounds_toArray, List.set_cons_zero, List.set_cons_succ])
                      refine wpAnyH_ready (rs := [12]) (by kernel_rfl) (by simp) ?_
                      refine AllReadyH.cons (o := _) rfl (fun Kc hKc => ?_) (AllReadyH.nil)
                      · go_simp
                        refine hKc.out _ _ (HS.out _ (hP4.alloc _).box (hP4.alloc _).vbx) (fun hHeld => ?_)
                        clear hKc Kc
                        (try simp only [List.getElem_toArray, List.getElem_cons_zero, List.getElem_cons_succ, Act.put, List.setIfInBounds_toArray, List.set_cons_zero, List.set_cons_succ])
                        have hP5 := hP4.alloc (Obj.cells #[.int .i64 rz] 3)
                        have p2_5 := Pd.new hP4 3 (.int .i64 rz)
                        clear hP4
                        generalize R4.alloc (Obj.cells #[.int .i64 rz] 3) = R5 at *
                        generalize R4.heap.size = g2 at *
                        refine wpAnyH_ready (rs := [13]) (by kernel_rfl) (by simp) ?_
                        refine AllReadyH.cons (o := _) rfl (fun Kc hKc => ?_) (AllReadyH.nil)
                        · refine step_append_at rfl _ _ 26 rfl pb 3 i0 (.int .i64 0) 1 8 Try.underlying26 hi0 iz0 iz1 iz2 rfl (by decide) bv P.b.length (intV P.b) rfl hP5.pv.b ⟨g2, 0, none⟩ 1 1 [.int .i64 rz] rfl rfl p2_5.news (by intro u hu; simp at hu; subst hu; rfl) (by unfold maxLen; omega) (by omega) hP5.sz ?_
                          intro v2 R6 o2 hg2 hat2
                          obtain ⟨qa2, qc2, rfl⟩ := kown_form o2
                          have hP6 := hP5.pb_ (by decide) (by decide) o2 hg2 hat2
                          clear p2_5 o2 hg2 hat2 hP5
                          refine hKc.out _ _ (HS.out _ hP6.box hP6.vbx) (fun hHeld => ?_)
                          clear hKc Kc
                          (try simp only [List.getElem_toArray, List.getElem_cons_zero, List.getElem_cons_succ, Act.put, List.setIfInBounds_toArray, List.set_cons_zero, List.set_cons_succ])
                          refine wpAnyH_done (by kernel_rfl) ?_ _
                          intro r
                          have b6 := hP6.box
                          have b7 : (R6.setCell ⟨pb, 0, none⟩ (.slice qa0 (P.rows.length + 1) qc0)).heap[pb]? = some (.cells #[.slice qa0 (P.rows.length + 1) qc0, ev, bv, cv] 32 (0, 0)) := by simpa using set_at (L := [rv, ev, bv, cv]) (k := 0) (v := .slice qa0 (P.rows.length + 1) qc0) b6
                          have b8 : ((R6.setCell ⟨pb, 0, none⟩ (.slice qa0 (P.rows.length + 1) qc0)).setCell ⟨pb, 1, none⟩ (.slice qa1 (P.rel.length + 1) qc1)).heap[pb]? = some (.cells #[.slice qa0 (P.rows.length + 1) qc0, .slice qa1 (P.rel.length + 1) qc1, bv, cv] 32 (0, 0)) := by simpa using set_at (L := [.slice qa0 (P.rows.length + 1) qc0, ev, bv, cv]) (k := 1) (v := .slice qa1 (P.rel.length + 1) qc1) b7
                          have b9 : (((R6.setCell ⟨pb, 0, none⟩ (.slice qa0 (P.rows.length + 1) qc0)).setCell ⟨pb, 1, none⟩ (.slice qa1 (P.rel.length + 1) qc1)).setCell ⟨pb, 2, none⟩ (.slice qa2 (P.b.length + 1) qc2)).heap[pb]? = some (.cells #[.slice qa0 (P.rows.length + 1) qc0, .slice qa1 (P.rel.length + 1) qc1, .slice qa2 (P.b.length + 1) qc2, cv] 32 (0, 0)) := by simpa using set_at (L := [.slice qa0 (P.rows.length + 1) qc0, .slice qa1 (P.rel.length + 1) qc1, bv, cv]) (k := 2) (v := .slice qa2 (P.b.length + 1) qc2) b8
                          have c60 := ibx b6 0 rv rfl
                          have f60 := free_at (L := [rv, ev, bv, cv]) b6 0
                          have c61 := ibx b6 1 ev rfl
                          have f61 := free_at (L := [rv, ev, bv, cv]) b6 1
                          have c62 := ibx b6 2 bv rfl
                          have f62 := free_at (L := [rv, ev, bv, cv]) b6 2
                          have h9 := ((hP6.pv.set (i := 0) b6 (by decide) (by decide) (.slice qa0 (P.rows.length + 1) qc0)).set (i := 1) b7 (by decide) (by decide) (.slice qa1 (P.rel.length + 1) qc1)).set (i := 2) b8 (by decide) (by decide) (.slice qa2 (P.b.length + 1) qc2)
                          have B9 : Below pb W5 (((R6.setCell ⟨pb, 0, none⟩ (.slice qa0 (P.rows.length + 1) qc0)).setCell ⟨pb, 1, none⟩ (.slice qa1 (P.rel.length + 1) qc1)).setCell ⟨pb, 2, none⟩ (.slice qa2 (P.b.length + 1) qc2)) := ((hP6.bel.setCell (p := ⟨pb, 0, none⟩) (Nat.le_refl _) _).setCell (p := ⟨pb, 1, none⟩) (Nat.le_refl _) _).setCell (p := ⟨pb, 2, none⟩) (Nat.le_refl _) _
                          have x9 : (((R6.setCell ⟨pb, 0, none⟩ (.slice qa0 (P.rows.length + 1) qc0)).setCell ⟨pb, 1, none⟩ (.slice qa1 (P.rel.length + 1) qc1)).setCell ⟨pb, 2, none⟩ (.slice qa2 (P.b.length + 1) qc2)).heap[w.heap.size + 1]? = some (.cells #[.slice none 0 0, .slice none 0 0, .slice none 0 0, .slice none 0 0] 32 (0, 0)) := by
                            rw [Below.heap_setCell _ _ _ _ HVP.out, Below.heap_setCell _ _ _ _ HVP.out, Below.heap_setCell _ _ _ _ HVP.out]
                            exact hP6.vbx
                          have s9 : pb ≤ (((R6.setCell ⟨pb, 0, none⟩ (.slice qa0 (P.rows.length + 1) qc0)).setCell ⟨pb, 1, none⟩ (.slice qa1 (P.rel.length + 1) qc1)).setCell ⟨pb, 2, none⟩ (.slice qa2 (P.b.length + 1) qc2)).heap.size := by simpa [World.setCell] using hP6.sz
                          clear hP6 b6 b7 b8 hHeld
                          refine wpAny_ready (rs := [15]) (by kernel_rfl) (by simp) ?_
                          refine AllReady.cons (o := _) rfl (fun Kc hKc => ?_) AllReady.nil
                          go_simp
                          refine hKc _ _ ?_
                          clear hKc Kc
                          (try simp only [List.getElem_toArray, List.getElem_cons_zero, List.getElem_cons_succ, Act.put, List.setIfInBounds_toArray, List.set_cons_zero, List.set_cons_succ])
                          refine wpAny_ready (rs := [16]) (by kernel_rfl) (by simp) ?_
                          refine AllReady.cons (o := _) rfl (fun Kc hKc => ?_) AllReady.nil
                          go_simp
                          refine hKc _ _ ?_
                          clear hKc Kc
                          (try simp only [List.getElem_toArray, List.getElem_cons_zero, List.getElem_cons_succ, Act.put, List.setIfInBounds_toArray, List.set_cons_zero, List.set_cons_succ])
                          refine wpAny_ready (rs := [17]) (by kernel_rfl) (by simp) ?_
                          refine AllReady.cons (o := _) rfl (fun Kc hKc => ?_) AllReady.nil
                          go_simp
                          refine hKc _ _ ?_
                          clear hKc Kc
                          (try simp only [List.getElem_toArray, List.getElem_cons_zero, List.getElem_cons_succ, Act.put, List.setIfInBounds_toArray, List.set_cons_zero, List.set_cons_succ])
                          refine wpAny_ready (rs := [18]) (by kernel_rfl) (by simp) ?_
                          refine AllReady.cons (o := _) rfl (fun Kc hKc => ?_) AllReady.nil
                          go_simp
                          refine hKc _ _ ?_
                          clear hKc Kc
                          (try simp only [List.getElem_toArray, List.getElem_cons_zero, List.getElem_cons_succ, Act.put, List.setIfInBounds_toArray, List.set_cons_zero, List.set_cons_succ])
                          refine wpAny_ready (rs := [19]) (by kernel_rfl) (by simp) ?_
                          refine AllReady.cons (o := _) rfl (fun Kc hKc => ?_) AllReady.nil
                          go_simp
                          refine hKc _ _ ?_
                          clear hKc Kc
                          (try simp only [List.getElem_toArray, List.getElem_cons_zero, List.getElem_cons_succ, Act.put, List.setIfInBounds_toArray, List.set_cons_zero, List.set_cons_succ])
                          refine wpAny_done (by kernel_rfl) ?_ _
                          refine NoPanic.normal ?_
                          clear c60 f60 c61 f61 c62 f62
                          generalize ((R6.setCell ⟨pb, 0, none⟩ (.slice qa0 (P.rows.length + 1) qc0)).setCell ⟨pb, 1, none⟩ (.slice qa1 (P.rel.length + 1) qc1)).setCell ⟨pb, 2, none⟩ (.slice qa2 (P.b.length + 1) qc2) = W9 at *
                          have HBX9 : Hid (Bx W9 W5 pb (P2 V net (k + 1))) := hid ⟨_, _, _, _, _, b9, by rw [HPS.out]; exact h9, B9, s9⟩
                          clear h9 b9 x9 B9 s9
                          go_wp2_with fail
                          go_roundw
                          case rel => exact ⟨k + 1, by omega, by go_num, HBX9⟩
                          case measure => simp [intOf]; omega
                    · go_simp
                      refine hKc.out _ _ (HS.out _ (hP3.alloc _).box (hP3.alloc _).vbx) (fun hHeld => ?_)
                      clear hKc Kc
                      (try simp only [List.getElem_toArray, List.getElem_cons_zero, List.getElem_cons_succ, Act.put, List.setIfInBounds_toArray, List.set_cons_zero, List.set_cons_succ])
                      have hP4 := hP3.alloc (Obj.cells #[.int .i64 rz] 3)
                      have p2_4 := Pd.new hP3 3 (.int .i64 rz)
                      have p1_4 := p1_3.alloc (Obj.cells #[.int .i64 rz] 3)
                      clear p1_3
                      clear hP3
                      generalize R3.alloc (Obj.cells #[.int .i64 rz] 3) = R4 at *
                      generalize R3.heap.size = g2 at *
                      refine wpAnyH_ready (rs := [8]) (by kernel_rfl) (by simp) ?_
                      refine AllReadyH.cons (o := _) rfl (fun Kc hKc => ?_) (AllReadyH.nil)
                      · refine step_append_at rfl _ _ 26 rfl pb 3 i0 (.int .i64 0) 1 8 Try.underlying26 hi0 iz0 iz1 iz2 rfl (by decide) ev P.rel.length (intV P.rel) rfl hP4.pv.rel ⟨g1, 0, none⟩ 1 1 [.int .i64 0] rfl rfl p1_4.news (by intro u hu; simp at hu; subst hu; rfl) (by unfold maxLen; omega) (by omega) hP4.sz ?_
                        intro v1 R5 o1 hg1 hat1
                        obtain ⟨qa1, qc1, rfl⟩ := kown_form o1
                        have hP5 := hP4.pe (by decide) (by decide) o1 hg1 hat1
                        have p2_5 := p2_4.ge hg1 hat1
                        clear p2_4
                        clear p1_4 o1 hg1 hat1 hP4
                        refine hKc.out _ _ (HS.out _ hP5.box hP5.vbx) (fun hHeld => ?_)
                        clear hKc Kc
                        (try simp only [List.getElem_toArray, List.getElem_cons_zero, List.getElem_cons_succ, Act.put, List.setIfInBounds_toArray, List.set_cons_zero, List.set_cons_succ])
                        refine wpAnyH_ready (rs := [13]) (by kernel_rfl) (by simp) ?_
                        refine AllReadyH.cons (o := _) rfl (fun Kc hKc => ?_) (AllReadyH.nil)
                        · refine step_append_at rfl _ _ 26 rfl pb 3 i0 (.int .i64 0) 1 8 Try.underlying26 hi0 iz0 iz1 iz2 rfl (by decide) bv P.b.length (intV P.b) rfl hP5.pv.b ⟨g2, 0, none⟩ 1 1 [.int .i64 rz] rfl rfl p2_5.news (by intro u hu; simp at hu; subst hu; rfl) (by unfold maxLen; omega) (by omega) hP5.sz ?_
                          intro v2 R6 o2 hg2 hat2
                          obtain ⟨qa2, qc2, rfl⟩ := kown_form o2
                          have hP6 := hP5.pb_ (by decide) (by decide) o2 hg2 hat2
                          clear p2_5 o2 hg2 hat2 hP5
                          refine hKc.out _ _ (HS.out _ hP6.box hP6.vbx) (fun hHeld => ?_)
                          clear hKc Kc
                          (try simp only [List.getElem_toArray, List.getElem_cons_zero, List.getElem_cons_succ, Act.put, List.setIfInBounds_toArray, List.set_cons_zero, List.set_cons_succ])
                          refine wpAnyH_done (by kernel_rfl) ?_ _
                          intro r
                          have b6 := hP6.box
                          have b7 : (R6.setCell ⟨pb, 0, none⟩ (.slice qa0 (P.rows.length + 1) qc0)).heap[pb]? = some (.cells #[.slice qa0 (P.rows.length + 1) qc0, ev, bv, cv] 32 (0, 0)) := by simpa using set_at (L := [rv, ev, bv, cv]) (k := 0) (v := .slice qa0 (P.rows.length + 1) qc0) b6
                          have b8 : ((R6.setCell ⟨pb, 0, none⟩ (.slice qa0 (P.rows.length + 1) qc0)).setCell ⟨pb, 1, none⟩ (.slice qa1 (P.rel.length + 1) qc1)).heap[pb]? = some (.cells #[.slice qa0 (P.rows.length + 1) qc0, .slice qa1 (P.rel.length + 1) qc1, bv, cv] 32 (0, 0)) := by simpa using set_at (L := [.slice qa0 (P.rows.length + 1) qc0, ev, bv, cv]) (k := 1) (v := .slice qa1 (P.rel.length + 1) qc1) b7
                          have b9 : (((R6.setCell ⟨pb, 0, none⟩ (.slice qa0 (P.rows.length + 1) qc0)).setCell ⟨pb, 1, none⟩ (.slice qa1 (P.rel.length + 1) qc1)).setCell ⟨pb, 2, none⟩ (.slice qa2 (P.b.length + 1) qc2)).heap[pb]? = some (.cells #[.slice qa0 (P.rows.length + 1) qc0, .slice qa1 (P.rel.length + 1) qc1, .slice qa2 (P.b.length + 1) qc2, cv] 32 (0, 0)) := by simpa using set_at (L := [.slice qa0 (P.rows.length + 1) qc0, .slice qa1 (P.rel.length + 1) qc1, bv, cv]) (k := 2) (v := .slice qa2 (P.b.length + 1) qc2) b8
                          have c60 := ibx b6 0 rv rfl
                          have f60 := free_at (L := [rv, ev, bv, cv]) b6 0
                          have c61 := ibx b6 1 ev rfl
                          have f61 := free_at (L := [rv, ev, bv, cv]) b6 1
                          have c62 := ibx b6 2 bv rfl
                          have f62 := free_at (L := [rv, ev, bv, cv]) b6 2
                          have h9 := ((hP6.pv.set (i := 0) b6 (by decide) (by decide) (.slice qa0 (P.rows.length + 1) qc0)).set (i := 1) b7 (by decide) (by decide) (.slice qa1 (P.rel.length + 1) qc1)).set (i := 2) b8 (by decide) (by decide) (.slice qa2 (P.b.length + 1) qc2)
                          have B9 : Below pb W5 (((R6.setCell ⟨pb, 0, none⟩ (.slice qa0 (P.rows.length + 1) qc0)).setCell ⟨pb, 1, none⟩ (.slice qa1 (P.rel.length + 1) qc1)).setCell ⟨pb, 2, none⟩ (.slice qa2 (P.b.length + 1) qc2)) := ((hP6.bel.setCell (p := ⟨pb, 0, none⟩) (Nat.le_refl _) _).setCell (p := ⟨pb, 1, none⟩) (Nat.le_refl _) _).setCell (p := ⟨pb, 2, none⟩) (Nat.le_refl _) _
                          have x9 : (((R6.setCell ⟨pb, 0, none⟩ (.slice qa0 (P.rows.length + 1) qc0)).setCell ⟨pb, 1, none⟩ (.slice qa1 (P.rel.length + 1) qc1)).setCell ⟨pb, 2, none⟩ (.slice qa2 (P.b.length + 1) qc2)).heap[w.heap.size + 1]? = some (.cells #[.slice none 0 0, .slice none 0 0, .slice none 0 0, .slice none 0 0] 32 (0, 0)) := by
                            rw [Below.heap_setCell _ _ _ _ HVP.out, Below.heap_setCell _ _ _ _ HVP.out, Below.heap_setCell _ _ _ _ HVP.out]
                            exact hP6.vbx
                          have s9 : pb ≤ (((R6.setCell ⟨pb, 0, none⟩ (.slice qa0 (P.rows.length + 1) qc0)).setCell ⟨pb, 1, none⟩ (.slice qa1 (P.rel.length + 1) qc1)).setCell ⟨pb, 2, none⟩ (.slice qa2 (P.b.length + 1) qc2)).heap.size := by simpa [World.setCell] using hP6.sz
                          clear hP6 b6 b7 b8 hHeld
                          refine wpAny_ready (rs := [15]) (by kernel_rfl) (by simp) ?_
                          refine AllReady.cons (o := _) rfl (fun Kc hKc => ?_) AllReady.nil
                          go_simp
                          refine hKc _ _ ?_
                          clear hKc Kc
                          (try simp only [List.getElem_toArray, List.getElem_cons_zero, List.getElem_cons_succ, Act.put, List.setIfInBounds_toArray, List.set_cons_zero, List.set_cons_succ])
                          refine wpAny_ready (rs := [16]) (by kernel_rfl) (by simp) ?_
                          refine AllReady.cons (o := _) rfl (fun Kc hKc => ?_) AllReady.nil
                          go_simp
                          refine hKc _ _ ?_
                          clear hKc Kc
                          (try simp only [List.getElem_toArray, List.getElem_cons_zero, List.getElem_cons_succ, Act.put, List.setIfInBounds_toArray, List.set_cons_zero, List.set_cons_succ])
                          refine wpAny_ready (rs := [17]) (by kernel_rfl) (by simp) ?_
                          refine AllReady.cons (o := _) rfl (fun Kc hKc => ?_) AllReady.nil
                          go_simp
                          refine hKc _ _ ?_
                          clear hKc Kc
                          (try simp only [List.getElem_toArray, List.getElem_cons_zero, List.getElem_cons_succ, Act.put, List.setIfInBounds_toArray, List.set_cons_zero, List.set_cons_succ])
                          refine wpAny_ready (rs := [18]) (by kernel_rfl) (by simp) ?_
                          refine AllReady.cons (o := _) rfl (fun Kc hKc => ?_) AllReady.nil
                          go_simp
                          refine hKc _ _ ?_
                          clear hKc Kc
                          (try simp only [List.getElem_toArray, List.getElem_cons_zero, List.getElem_cons_succ, Act.put, List.setIfInBounds_toArray, List.set_cons_zero, List.set_cons_succ])
                          refine wpAny_ready (rs := [19]) (by kernel_rfl) (by simp) ?_
                          refine AllReady.cons (o := _) rfl (fun Kc hKc => ?_) AllReady.nil
                          go_simp
                          refine hKc _ _ ?_
                          clear hKc Kc
                          (try simp only [List.getElem_toArray, List.getElem_cons_zero, List.getElem_cons_succ, Act.put, List.setIfInBounds_toArray, List.set_cons_zero, List.set_cons_succ])
                          refine wpAny_done (by kernel_rfl) ?_ _
                          refine NoPanic.normal ?_
                          clear c60 f60 c61 f61 c62 f62
                          generalize ((R6.setCell ⟨pb, 0, none⟩ (.slice qa0 (P.rows.length + 1) qc0)).setCell ⟨pb, 1, none⟩ (.slice qa1 (P.rel.length + 1) qc1)).setCell ⟨pb, 2, none⟩ (.slice qa2 (P.b.length + 1) qc2) = W9 at *
                          have HBX9 : Hid (Bx W9 W5 pb (P2 V net (k + 1))) := hid ⟨_, _, _, _, _, b9, by rw [HPS.out]; exact h9, B9, s9⟩
                          clear h9 b9 x9 B9 s9
                          go_wp2_with fail
                          go_roundw
                          case rel => exact ⟨k + 1, by omega, by go_num, HBX9⟩
                          case measure => simp [intOf]; omega
                  · go_simp
                    refine hKc.out _ _ (HS.out _ (hP2.alloc _).box (hP2.alloc _).vbx) (fun hHeld => ?_)
                    clear hKc Kc
                    (try simp only [List.getElem_toArray, List.getElem_cons_zero, List.getElem_cons_succ, Act.put, List.setIfInBounds_toArray, List.set_cons_zero, List.set_cons_succ])
                    have hP3 := hP2.alloc (Obj.cells #[.int .i64 rz] 3)
                    have p2_3 := Pd.new hP2 3 (.int .i64 rz)
                    have p0_3 := p0_2.alloc (Obj.cells #[.int .i64 rz] 3)
                    have p1_3 := p1_2.alloc (Obj.cells #[.int .i64 rz] 3)
                    have io3 : IO (R2.alloc (Obj.cells #[.int .i64 rz] 3)) pb (Value.slice (some ⟨w2.heap.size, 0, none⟩) V.length V.length) LU := World.ownsRow.alloc io2 _
                    clear io2
                    clear p0_2
                    clear p1_2
                    clear hP2
                    generalize R2.alloc (Obj.cells #[.int .i64 rz] 3) = R3 at *
                    generalize R2.heap.size = g2 at *
                    refine wpAnyH_ready (rs := [4]) (by kernel_rfl) (by simp) ?_
                    refine AllReadyH.cons (o := _) rfl (fun Kc hKc => ?_) (AllReadyH.nil)
                    · refine step_append_at rfl _ _ 30 rfl pb 26 j0 (.slice none 0 0) 1 24 Try.underlying30 hj0 jz0 jz1 jz2 rfl (by decide) rv P.rows.length vs rfl hP3.pv.rows ⟨g0, 0, none⟩ 1 1 [(Value.slice (some ⟨w2.heap.size, 0, none⟩) V.length V.length)] rfl rfl p0_3.news (by intro u hu; simp at hu; subst hu; rfl) (by unfold maxLen; omega) (by omega) hP3.sz ?_
                      intro v0 R4 o0 hg0 hat0
                      obtain ⟨qa0, qc0, rfl⟩ := kown_form o0
                      have hP4 := hP3.pr (by decide) (by decide) (L := LU) io3 HD.out.1 HD.out.2.1 HD.out.2.2 o0 hg0
                      clear io3
                      have p1_4 := p1_3.gr hg0 hat0
                      clear p1_3
                      have p2_4 := p2_3.gr hg0 hat0
                      clear p2_3
                      clear p0_3 o0 hg0 hat0 hP3
                      refine hKc.out _ _ (HS.out _ hP4.box hP4.vbx) (fun hHeld => ?_)
                      clear hKc Kc
                      (try simp only [List.getElem_toArray, List.getElem_cons_zero, List.getElem_cons_succ, Act.put, List.setIfInBounds_toArray, List.set_cons_zero, List.set_cons_succ])
                      refine wpAnyH_take (i := 14) (v := ?_) rfl (by kernel_rfl) (by kernel_rfl) (by kernel_rfl) (fun _ _ _ h => h) (Or.inl ⟨by rfl, ?_⟩) (by assumption) ?_
                      rotate_left
                      · intro w hSw
                        (try dsimp only at hSw)
                        go_simp
                        (try with_reducible rfl)
                      (try simp only [List.getElem_toArray, List.getElem_cons_zero, List.getElem_cons_succ, Act.put, List.setIfInBounds_toArray, List.set_cons_zero, List.set_cons_succ])
                      refine wpAnyH_ready (rs := [8]) (by kernel_rfl) (by simp) ?_
                      refine AllReadyH.cons (o := _) rfl (fun Kc hKc => ?_) (AllReadyH.nil)
                      · refine step_append_at rfl _ _ 26 rfl pb 3 i0 (.int .i64 0) 1 8 Try.underlying26 hi0 iz0 iz1 iz2 rfl (by decide) ev P.rel.length (intV P.rel) rfl hP4.pv.rel ⟨g1, 0, none⟩ 1 1 [.int .i64 0] rfl rfl p1_4.news (by intro u hu; simp at hu; subst hu; rfl) (by unfold maxLen; omega) (by omega) hP4.sz ?_
                        intro v1 R5 o1 hg1 hat1
                        obtain ⟨qa1, qc1, rfl⟩ := kown_form o1
                        have hP5 := hP4.pe (by decide) (by decide) o1 hg1 hat1
                        have p2_5 := p2_4.ge hg1 hat1
                        clear p2_4
                        clear p1_4 o1 hg1 hat1 hP4
                        refine hKc.out _ _ (HS.out _ hP5.box hP5.vbx) (fun hHeld => ?_)
                        clear hKc Kc
                        (try simp only [List.getElem_toArray, List.getElem_cons_zero, List.getElem_cons_succ, Act.put, List.setIfInBounds_toArray, List.set_cons_zero, List.set_cons_succ])
                        refine wpAnyH_ready (rs := [13]) (by kernel_rfl) (by simp) ?_
                        refine AllReadyH.cons (o := _) rfl (fun Kc hKc => ?_) (AllReadyH.nil)
                        · refine step_append_at rfl _ _ 26 rfl pb 3 i0 (.int .i64 0) 1 8 Try.underlying26 hi0 iz0 iz1 iz2 rfl (by decide) bv P.b.length (intV P.b) rfl hP5.pv.b ⟨g2, 0, none⟩ 1 1 [.int .i64 rz] rfl rfl p2_5.news (by intro u hu; simp at hu; subst hu; rfl) (by unfold maxLen; omega) (by omega) hP5.sz ?_
                          intro v2 R6 o2 hg2 hat2
                          obtain ⟨qa2, qc2, rfl⟩ := kown_form o2
                          have hP6 := hP5.pb_ (by decide) (by decide) o2 hg2 hat2
                          clear p2_5 o2 hg2 hat2 hP5
                          refine hKc.out _ _ (HS.out _ hP6.box hP6.vbx) (fun hHeld => ?_)
                          clear hKc Kc
                          (try simp only [List.getElem_toArray, List.getElem_cons_zero, List.getElem_cons_succ, Act.put, List.setIfInBounds_toArray, List.set_cons_zero, List.set_cons_succ])
                          refine wpAnyH_done (by kernel_rfl) ?_ _
                          intro r
                          have b6 := hP6.box
                          have b7 : (R6.setCell ⟨pb, 0, none⟩ (.slice qa0 (P.rows.length + 1) qc0)).heap[pb]? = some (.cells #[.slice qa0 (P.rows.length + 1) qc0, ev, bv, cv] 32 (0, 0)) := by simpa using set_at (L := [rv, ev, bv, cv]) (k := 0) (v := .slice qa0 (P.rows.length + 1) qc0) b6
                          have b8 : ((R6.setCell ⟨pb, 0, none⟩ (.slice qa0 (P.rows.length + 1) qc0)).setCell ⟨pb, 1, none⟩ (.slice qa1 (P.rel.length + 1) qc1)).heap[pb]? = some (.cells #[.slice qa0 (P.rows.length + 1) qc0, .slice qa1 (P.rel.length + 1) qc1, bv, cv] 32 (0, 0)) := by simpa using set_at (L := [.slice qa0 (P.rows.length + 1) qc0, ev, bv, cv]) (k := 1) (v := .slice qa1 (P.rel.length + 1) qc1) b7
                          have b9 : (((R6.setCell ⟨pb, 0, none⟩ (.slice qa0 (P.rows.length + 1) qc0)).setCell ⟨pb, 1, none⟩ (.slice qa1 (P.rel.length + 1) qc1)).setCell ⟨pb, 2, none⟩ (.slice qa2 (P.b.length + 1) qc2)).heap[pb]? = some (.cells #[.slice qa0 (P.rows.length + 1) qc0, .slice qa1 (P.rel.length + 1) qc1, .slice qa2 (P.b.length + 1) qc2, cv] 32 (0, 0)) := by simpa using set_at (L := [.slice qa0 (P.rows.length + 1) qc0, .slice qa1 (P.rel.length + 1) qc1, bv, cv]) (k := 2) (v := .slice qa2 (P.b.length + 1) qc2) b8
                          have c60 := ibx b6 0 rv rfl
                          have f60 := free_at (L := [rv, ev, bv, cv]) b6 0
                          have c61 := ibx b6 1 ev rfl
                          have f61 := free_at (L := [rv, ev, bv, cv]) b6 1
                          have c62 := ibx b6 2 bv rfl
                          have f62 := free_at (L := [rv, ev, bv, cv]) b6 2
                          have h9 := ((hP6.pv.set (i := 0) b6 (by decide) (by decide) (.slice qa0 (P.rows.length + 1) qc0)).set (i := 1) b7 (by decide) (by decide) (.slice qa1 (P.rel.length + 1) qc1)).set (i := 2) b8 (by decide) (by decide) (.slice qa2 (P.b.length + 1) qc2)
                          have B9 : Below pb W5 (((R6.setCell ⟨pb, 0, none⟩ (.slice qa0 (P.rows.length + 1) qc0)).setCell ⟨pb, 1, none⟩ (.slice qa1 (P.rel.length + 1) qc1)).setCell ⟨pb, 2, none⟩ (.slice qa2 (P.b.length + 1) qc2)) := ((hP6.bel.setCell (p := ⟨pb, 0, none⟩) (Nat.le_refl _) _).setCell (p := ⟨pb, 1, none⟩) (Nat.le_refl _) _).setCell (p := ⟨pb, 2, none⟩) (Nat.le_refl _) _
                          have x9 : (((R6.setCell ⟨pb, 0, none⟩ (.slice qa0 (P.rows.length + 1) qc0)).setCell ⟨pb, 1, none⟩ (.slice qa1 (P.rel.length + 1) qc1)).setCell ⟨pb, 2, none⟩ (.slice qa2 (P.b.length + 1) qc2)).heap[w.heap.size + 1]? = some (.cells #[.slice none 0 0, .slice none 0 0, .slice none 0 0, .slice none 0 0] 32 (0, 0)) := by
                            rw [Below.heap_setCell _ _ _ _ HVP.out, Below.heap_setCell _ _ _ _ HVP.out, Below.heap_setCell _ _ _ _ HVP.out]
                            exact hP6.vbx
                          have s9 : pb ≤ (((R6.setCell ⟨pb, 0, none⟩ (.slice qa0 (P.rows.length + 1) qc0)).setCell ⟨pb, 1, none⟩ (.slice qa1 (P.rel.length + 1) qc1)).setCell ⟨pb, 2, none⟩ (.slice qa2 (P.b.length + 1) qc2)).heap.size := by simpa [World.setCell] using hP6.sz
                          clear hP6 b6 b7 b8 hHeld
                          refine wpAny_ready (rs := [15]) (by kernel_rfl) (by simp) ?_
                          refine AllReady.cons (o := _) rfl (fun Kc hKc => ?_) AllReady.nil
                          go_simp
                          refine hKc _ _ ?_
                          clear hKc Kc
                          (try simp only [List.getElem_toArray, List.getElem_cons_zero, List.getElem_cons_succ, Act.put, List.setIfInBounds_toArray, List.set_cons_zero, List.set_cons_succ])
                          refine wpAny_ready (rs := [16]) (by kernel_rfl) (by simp) ?_
                          refine AllReady.cons (o := _) rfl (fun Kc hKc => ?_) AllReady.nil
                          go_simp
                          refine hKc _ _ ?_
                          clear hKc Kc
                          (try simp only [List.getElem_toArray, List.getElem_cons_zero, List.getElem_cons_succ, Act.put, List.setIfInBounds_toArray, List.set_cons_zero, List.set_cons_succ])
                          refine wpAny_ready (rs := [17]) (by kernel_rfl) (by simp) ?_
                          refine AllReady.cons (o := _) rfl (fun Kc hKc => ?_) AllReady.nil
                          go_simp
                          refine hKc _ _ ?_
                          clear hKc Kc
                          (try simp only [List.getElem_toArray, List.getElem_cons_zero, List.getElem_cons_succ, Act.put, List.setIfInBounds_toArray, List.set_cons_zero, List.set_cons_succ])
                          refine wpAny_ready (rs := [18]) (by kernel_rfl) (by simp) ?_
                          refine AllReady.cons (o := _) rfl (fun Kc hKc => ?_) AllReady.nil
                          go_simp
                          refine hKc _ _ ?_
                          clear hKc Kc
                          (try simp only [List.getElem_toArray, List.getElem_cons_zero, List.getElem_cons_succ, Act.put, List.setIfInBounds_toArray, List.set_cons_zero, List.set_cons_succ])
                          refine wpAny_ready (rs := [19]) (by kernel_rfl) (by simp) ?_
                          refine AllReady.cons (o := _) rfl (fun Kc hKc => ?_) AllReady.nil
                          go_simp
                          refine hKc _ _ ?_
                          clear hKc Kc
                          (try simp only [List.getElem_toArray, List.getElem_cons_zero, List.getElem_cons_succ, Act.put, List.setIfInBounds_toArray, List.set_cons_zero, List.set_cons_succ])
                          refine wpAny_done (by kernel_rfl) ?_ _
                          refine NoPanic.normal ?_
                          clear c60 f60 c61 f61 c62 f62
                          generalize ((R6.setCell ⟨pb, 0, none⟩ (.slice qa0 (P.rows.length + 1) qc0)).setCell ⟨pb, 1, none⟩ (.slice qa1 (P.rel.length + 1) qc1)).setCell ⟨pb, 2, none⟩ (.slice qa2 (P.b.length + 1) qc2) = W9 at *
                          have HBX9 : Hid (Bx W9 W5 pb (P2 V net (k + 1))) := hid ⟨_, _, _, _, _, b9, by rw [HPS.out]; exact h9, B9, s9⟩
                          clear h9 b9 x9 B9 s9
                          go_wp2_with fail
                          go_roundw
                          case rel => exact ⟨k + 1, by omega, by go_num, HBX9⟩
                          case measure => simp [intOf]; omega
                · go_simp
                  refine hKc.out _ _ (HS.out _ (hP1.alloc _).box (hP1.alloc _).vbx) (fun hHeld => ?_)
                  clear hKc Kc
                  (try simp only [List.getElem_toArray, List.getElem_cons_zero, List.getElem_cons_succ, Act.put, List.setIfInBounds_toArray, List.set_cons_zero, List.set_cons_succ])
                  have hP2 := hP1.alloc (Obj.cells #[.int .i64 rz] 3)
                  have p2_2 := Pd.new hP1 3 (.int .i64 rz)
                  have p0_2 := p0_1.alloc (Obj.cells #[.int .i64 rz] 3)
                  have io2 : IO (R1.alloc (Obj.cells #[.int .i64 rz] 3)) pb (Value.slice (some ⟨w2.heap.size, 0, none⟩) V.length V.length) LU := World.ownsRow.alloc io1 _
                  clear io1
                  clear p0_1
                  clear hP1
                  generalize R1.alloc (Obj.cells #[.int .i64 rz] 3) = R2 at *
                  generalize R1.heap.size = g2 at *
                  refine wpAnyH_ready (rs := [4, 7]) (by kernel_rfl) (by simp) ?_
                  refine AllReadyH.cons (o := _) rfl (fun Kc hKc => ?_) (AllReadyH.cons (o := _) rfl (fun Kc hKc => ?_) (AllReadyH.nil))
                  · refine step_append_at rfl _ _ 30 rfl pb 26 j0 (.slice none 0 0) 1 24 Try.underlying30 hj0 jz0 jz1 jz2 rfl (by decide) rv P.rows.length vs rfl hP2.pv.rows ⟨g0, 0, none⟩ 1 1 [(Value.slice (some ⟨w2.heap.size, 0, none⟩) V.length V.length)] rfl rfl p0_2.news (by intro u hu; simp at hu; subst hu; rfl) (by unfold maxLen; omega) (by omega) hP2.sz ?_
                    intro v0 R3 o0 hg0 hat0
                    obtain ⟨qa0, qc0, rfl⟩ := kown_form o0
                    have hP3 := hP2.pr (by decide) (by decide) (L := LU) io2 HD.out.1 HD.out.2.1 HD.out.2.2 o0 hg0
                    clear io2
                    have p2_3 := p2_2.gr hg0 hat0
                    clear p2_2
                    clear p0_2 o0 hg0 hat0 hP2
                    refine hKc.out _ _ (HS.out _ hP3.box hP3.vbx) (fun hHeld => ?_)
                    clear hKc Kc
                    (try simp only [List.getElem_toArray, List.getElem_cons_zero, List.getElem_cons_succ, Act.put, List.setIfInBounds_toArray, List.set_cons_zero, List.set_cons_succ])
                    refine wpAnyH_take (i := 14) (v := ?_) rfl (by kernel_rfl) (by kernel_rfl) (by kernel_rfl) (fun _ _ _ h => h) (Or.inl ⟨by rfl, ?_⟩) (by assumption) ?_
                    rotate_left
                    · intro w hSw
                      (try dsimp only at hSw)
                      go_simp
                      (try with_reducible rfl)
                    (try simp only [List.getElem_toArray, List.getElem_cons_zero, List.getElem_cons_succ, Act.put, List.setIfInBounds_toArray, List.set_cons_zero, List.set_cons_succ])
                    refine wpAnyH_ready (rs := [7]) (by kernel_rfl) (by simp) ?_
                    refine AllReadyH.cons (o := _) rfl (fun Kc hKc => ?_) (AllReadyH.nil)
                    · go_simp
                      refine hKc.out _ _ (HS.out _ (hP3.alloc _).box (hP3.alloc _).vbx) (fun hHeld => ?_)
                      clear hKc Kc
                      (try simp only [List.getElem_toArray, List.getElem_cons_zero, List.getElem_cons_succ, Act.put, List.setIfInBounds_toArray, List.set_cons_zero, List.set_cons_succ])
                      have hP4 := hP3.alloc (Obj.cells #[.int .i64 0] 3)
                      have p1_4 := Pd.new hP3 3 (.int .i64 0)
                      have p2_4 := p2_3.alloc (Obj.cells #[.int .i64 0] 3)
                      clear p2_3
                      clear hP3
                      generalize R3.alloc (Obj.cells #[.int .i64 0] 3) = R4 at *
                      generalize R3.heap.size = g1 at *
                      refine wpAnyH_ready (rs := [8]) (by kernel_rfl) (by simp) ?_
                      refine AllReadyH.cons (o := _) rfl (fun Kc hKc => ?_) (AllReadyH.nil)
                      · refine step_append_at rfl _ _ 26 rfl pb 3 i0 (.int .i64 0) 1 8 Try.underlying26 hi0 iz0 iz1 iz2 rfl (by decide) ev P.rel.length (intV P.rel) rfl hP4.pv.rel ⟨g1, 0, none⟩ 1 1 [.int .i64 0] rfl rfl p1_4.news (by intro u hu; simp at hu; subst hu; rfl) (by unfold maxLen; omega) (by omega) hP4.sz ?_
                        intro v1 R5 o1 hg1 hat1
                        obtain ⟨qa1, qc1, rfl⟩ := kown_form o1
                        have hP5 := hP4.pe (by decide) (by decide) o1 hg1 hat1
                        have p2_5 := p2_4.ge hg1 hat1
                        clear p2_4
                        clear p1_4 o1 hg1 hat1 hP4
                        refine hKc.out _ _ (HS.out _ hP5.box hP5.vbx) (fun hHeld => ?_)
                        clear hKc Kc
                        (try simp only [List.getElem_toArray, List.getElem_cons_zero, List.getElem_cons_succ, Act.put, List.setIfInBounds_toArray, List.set_cons_zero, List.set_cons_succ])
                        refine wpAnyH_ready (rs := [13]) (by kernel_rfl) (by simp) ?_
                        refine AllReadyH.cons (o := _) rfl (fun Kc hKc => ?_) (AllReadyH.nil)
                        · refine step_append_at rfl _ _ 26 rfl pb 3 i0 (.int .i64 0) 1 8 Try.underlying26 hi0 iz0 iz1 iz2 rfl (by decide) bv P.b.length (intV P.b) rfl hP5.pv.b ⟨g2, 0, none⟩ 1 1 [.int .i64 rz] rfl rfl p2_5.news (by intro u hu; simp at hu; subst hu; rfl) (by unfold maxLen; omega) (by omega) hP5.sz ?_
                          intro v2 R6 o2 hg2 hat2
                          obtain ⟨qa2, qc2, rfl⟩ := kown_form o2
                          have hP6 := hP5.pb_ (by decide) (by decide) o2 hg2 hat2
                          clear p2_5 o2 hg2 hat2 hP5
                          refine hKc.out _ _ (HS.out _ hP6.box hP6.vbx) (fun hHeld => ?_)
                          clear hKc Kc
                          (try simp only [List.getElem_toArray, List.getElem_cons_zero, List.getElem_cons_succ, Act.put, List.setIfInBounds_toArray, List.set_cons_zero, List.set_cons_succ])
                          refine wpAnyH_done (by kernel_rfl) ?_ _
                          intro r
                          have b6 := hP6.box
                          have b7 : (R6.setCell ⟨pb, 0, none⟩ (.slice qa0 (P.rows.length + 1) qc0)).heap[pb]? = some (.cells #[.slice qa0 (P.rows.length + 1) qc0, ev, bv, cv] 32 (0, 0)) := by simpa using set_at (L := [rv, ev, bv, cv]) (k := 0) (v := .slice qa0 (P.rows.length + 1) qc0) b6
                          have b8 : ((R6.setCell ⟨pb, 0, none⟩ (.slice qa0 (P.rows.length + 1) qc0)).setCell ⟨pb, 1, none⟩ (.slice qa1 (P.rel.length + 1) qc1)).heap[pb]? = some (.cells #[.slice qa0 (P.rows.length + 1) qc0, .slice qa1 (P.rel.length + 1) qc1, bv, cv] 32 (0, 0)) := by simpa using set_at (L := [.slice qa0 (P.rows.length + 1) qc0, ev, bv, cv]) (k := 1) (v := .slice qa1 (P.rel.length + 1) qc1) b7
                          have b9 : (((R6.setCell ⟨pb, 0, none⟩ (.slice qa0 (P.rows.length + 1) qc0)).setCell ⟨pb, 1, none⟩ (.slice qa1 (P.rel.length + 1) qc1)).setCell ⟨pb, 2, none⟩ (.slice qa2 (P.b.length + 1) qc2)).heap[pb]? = some (.cells #[.slice qa0 (P.rows.length + 1) qc0, .slice qa1 (P.rel.length + 1) qc1, .slice qa2 (P.b.length + 1) qc2, cv] 32 (0, 0)) := by simpa using set_at (L := [.slice qa0 (P.rows.length + 1) qc0, .slice qa1 (P.rel.length + 1) qc1, bv, cv]) (k := 2) (v := .slice qa2 (P.b.length + 1) qc2) b8
                          have c60 := ibx b6 0 rv rfl
                          have f60 := free_at (L := [rv, ev, bv, cv]) b6 0
                          have c61 := ibx b6 1 ev rfl
                          have f61 := free_at (L := [rv, ev, bv, cv]) b6 1
                          have c62 := ibx b6 2 bv rfl
                          have f62 := free_at (L := [rv, ev, bv, cv]) b6 2
                          have h9 := ((hP6.pv.set (i := 0) b6 (by decide) (by decide) (.slice qa0 (P.rows.length + 1) qc0)).set (i := 1) b7 (by decide) (by decide) (.slice qa1 (P.rel.length + 1) qc1)).set (i := 2) b8 (by decide) (by decide) (.slice qa2 (P.b.length + 1) qc2)
                          have B9 : Below pb W5 (((R6.setCell ⟨pb, 0, none⟩ (.slice qa0 (P.rows.length + 1) qc0)).setCell ⟨pb, 1, none⟩ (.slice qa1 (P.rel.length + 1) qc1)).setCell ⟨pb, 2, none⟩ (.slice qa2 (P.b.length + 1) qc2)) := ((hP6.bel.setCell (p := ⟨pb, 0, none⟩) (Nat.le_refl _) _).setCell (p := ⟨pb, 1, none⟩) (Nat.le_refl _) _).setCell (p := ⟨pb, 2, none⟩) (Nat.le_refl _) _
                          have x9 : (((R6.setCell ⟨pb, 0, none⟩ (.slice qa0 (P.rows.length + 1) qc0)).setCell ⟨pb, 1, none⟩ (.slice qa1 (P.rel.length + 1) qc1)).setCell ⟨pb, 2, none⟩ (.slice qa2 (P.b.length + 1) qc2)).heap[w.heap.size + 1]? = some (.cells #[.slice none 0 0, .slice none 0 0, .slice none 0 0, .slice none 0 0] 32 (0, 0)) := by
                            rw [Below.heap_setCell _ _ _ _ HVP.out, Below.heap_setCell _ _ _ _ HVP.out, Below.heap_setCell _ _ _ _ HVP.out]
                            exact hP6.vbx
                          have s9 : pb ≤ (((R6.setCell ⟨pb, 0, none⟩ (.slice qa0 (P.rows.length + 1) qc0)).setCell ⟨pb, 1, none⟩ (.slice qa1 (P.rel.length + 1) qc1)).setCell ⟨pb, 2, none⟩ (.slice qa2 (P.b.length + 1) qc2)).heap.size := by simpa [World.setCell] using hP6.sz
                          clear hP6 b6 b7 b8 hHeld
                          refine wpAny_ready (rs := [15]) (by kernel_rfl) (by simp) ?_
                          refine AllReady.cons (o := _) rfl (fun Kc hKc => ?_) AllReady.nil
                          go_simp
                          refine hKc _ _ ?_
                          clear hKc Kc
                          (try simp only [List.getElem_toArray, List.getElem_cons_zero, List.getElem_cons_succ, Act.put, List.setIfInBounds_toArray, List.set_cons_zero, List.set_cons_succ])
                          refine wpAny_ready (rs := [16]) (by kernel_rfl) (by simp) ?_
                          refine AllReady.cons (o := _) rfl (fun Kc hKc => ?_) AllReady.nil
                          go_simp
                          refine hKc _ _ ?_
                          clear hKc Kc
                          (try simp only [List.getElem_toArray, List.getElem_cons_zero, List.getElem_cons_succ, Act.put, List.setIfInBounds_toArray, List.set_cons_zero, List.set_cons_succ])
                          refine wpAny_ready (rs := [17]) (by kernel_rfl) (by simp) ?_
                          refine AllReady.cons (o := _) rfl (fun Kc hKc => ?_) AllReady.nil
                          go_simp
                          refine hKc _ _ ?_
                          clear hKc Kc
                          (try simp only [List.getElem_toArray, List.getElem_cons_zero, List.getElem_cons_succ, Act.put, List.setIfInBounds_toArray, List.set_cons_zero, List.set_cons_succ])
                          refine wpAny_ready (rs := [18]) (by kernel_rfl) (by simp) ?_
                          refine AllReady.cons (o := _) rfl (fun Kc hKc => ?_) AllReady.nil
                          go_simp
                          refine hKc _ _ ?_
                          clear hKc Kc
                          (try simp only [List.getElem_toArray, List.getElem_cons_zero, List.getElem_cons_succ, Act.put, List.setIfInBounds_toArray, List.set_cons_zero, List.set_cons_succ])
                          refine wpAny_ready (rs := [19]) (by kernel_rfl) (by simp) ?_
                          refine AllReady.cons (o := _) rfl (fun Kc hKc => ?_) AllReady.nil
                          go_simp
                          refine hKc _ _ ?_
                          clear hKc Kc
                          (try simp only [List.getElem_toArray, List.getElem_cons_zero, List.getElem_cons_succ, Act.put, List.setIfInBounds_toArray, List.set_cons_zero, List.set_cons_succ])
                          refine wpAny_done (by kernel_rfl) ?_ _
                          refine NoPanic.normal ?_
                          clear c60 f60 c61 f61 c62 f62
                          generalize ((R6.setCell ⟨pb, 0, none⟩ (.slice qa0 (P.rows.length + 1) qc0)).setCell ⟨pb, 1, none⟩ (.slice qa1 (P.rel.length + 1) qc1)).setCell ⟨pb, 2, none⟩ (.slice qa2 (P.b.length + 1) qc2) = W9 at *
                          have HBX9 : Hid (Bx W9 W5 pb (P2 V net (k + 1))) := hid ⟨_, _, _, _, _, b9, by rw [HPS.out]; exact h9, B9, s9⟩
                          clear h9 b9 x9 B9 s9
                          go_wp2_with fail
                          go_roundw
                          case rel => exact ⟨k + 1, by omega, by go_num, HBX9⟩
                          case measure => simp [intOf]; omega
                  · go_simp
                    refine hKc.out _ _ (HS.out _ (hP2.alloc _).box (hP2.alloc _).vbx) (fun hHeld => ?_)
                    clear hKc Kc
                    (try simp only [List.getElem_toArray, List.getElem_cons_zero, List.getElem_cons_succ, Act.put, List.setIfInBounds_toArray, List.set_cons_zero, List.set_cons_succ])
                    have hP3 := hP2.alloc (Obj.cells #[.int .i64 0] 3)
                    have p1_3 := Pd.new hP2 3 (.int .i64 0)
                    have p0_3 := p0_2.alloc (Obj.cells #[.int .i64 0] 3)
                    have p2_3 := p2_2.alloc (Obj.cells #[.int .i64 0] 3)
                    have io3 : IO (R2.alloc (Obj.cells #[.int .i64 0] 3)) pb (Value.slice (some ⟨w2.heap.size, 0, none⟩) V.length V.length) LU := World.ownsRow.alloc io2 _
                    clear io2
                    clear p0_2
                    clear p2_2
                    clear hP2
                    generalize R2.alloc (Obj.cells #[.int .i64 0] 3) = R3 at *
                    generalize R2.heap.size = g1 at *
                    refine wpAnyH_ready (rs := [4]) (by kernel_rfl) (by simp) ?_
                    refine AllReadyH.cons (o := _) rfl (fun Kc hKc => ?_) (AllReadyH.nil)
                    · refine step_append_at rfl _ _ 30 rfl pb 26 j0 (.slice none 0 0) 1 24 Try.underlying30 hj0 jz0 jz1 jz2 rfl (by decide) rv P.rows.length vs rfl hP3.pv.rows ⟨g0, 0, none⟩ 1 1 [(Value.slice (some ⟨w2.heap.size, 0, none⟩) V.length V.length)] rfl rfl p0_3.news (by intro u hu; simp at hu; subst hu; rfl) (by unfold maxLen; omega) (by omega) hP3.sz ?_
                      intro v0 R4 o0 hg0 hat0
                      obtain ⟨qa0, qc0, rfl⟩ := kown_form o0
                      have hP4 := hP3.pr (by decide) (by decide) (L := LU) io3 HD.out.1 HD.out.2.1 HD.out.2.2 o0 hg0
                      clear io3
                      have p1_4 := p1_3.gr hg0 hat0
                      clear p1_3
                      have p2_4 := p2_3.gr hg0 hat0
                      clear p2_3
                      clear p0_3 o0 hg0 hat0 hP3
                      refine hKc.out _ _ (HS.out _ hP4.box hP4.vbx) (fun hHeld => ?_)
                      clear hKc Kc
                      (try simp only [List.getElem_toArray, List.getElem_cons_zero, List.getElem_cons_succ, Act.put, List.setIfInBounds_toArray, List.set_cons_zero, List.set_cons_succ])
                      refine wpAnyH_take (i := 14) (v := ?_) rfl (by kernel_rfl) (by kernel_rfl) (by kernel_rfl) (fun _ _ _ h => h) (Or.inl ⟨by rfl, ?_⟩) (by assumption) ?_
                      rotate_left
                      · intro w hSw
                        (try dsimp only at hSw)
                        go_simp
                        (try with_reducible rfl)
                      (try simp only [List.getElem_toArray, List.getElem_cons_zero, List.getElem_cons_succ, Act.put, List.setIfInBounds_toArray, List.set_cons_zero, List.set_cons_succ])
                      refine wpAnyH_ready (rs := [8]) (by kernel_rfl) (by simp) ?_
                      refine AllReadyH.cons (o := _) rfl (fun Kc hKc => ?_) (AllReadyH.nil)
                      · refine step_append_at rfl _ _ 26 rfl pb 3 i0 (.int .i64 0) 1 8 Try.underlying26 hi0 iz0 iz1 iz2 rfl (by decide) ev P.rel.length (intV P.rel) rfl hP4.pv.rel ⟨g1, 0, none⟩ 1 1 [.int .i64 0] rfl rfl p1_4.news (by intro u hu; simp at hu; subst hu; rfl) (by unfold maxLen; omega) (by omega) hP4.sz ?_
                        intro v1 R5 o1 hg1 hat1
                        obtain ⟨qa1, qc1, rfl⟩ := kown_form o1
                        have hP5 := hP4.pe (by decide) (by decide) o1 hg1 hat1
                        have p2_5 := p2_4.ge hg1 hat1
                        clear p2_4
                        clear p1_4 o1 hg1 hat1 hP4
                        refine hKc.out _ _ (HS.out _ hP5.box hP5.vbx) (fun hHeld => ?_)
                        clear hKc Kc
                        (try simp only [List.getElem_toArray, List.getElem_cons_zero, List.getElem_cons_succ, Act.put, List.setIfInBounds_toArray, List.set_cons_zero, List.set_cons_succ])
                        refine wpAnyH_ready (rs := [13]) (by kernel_rfl) (by simp) ?_
                        refine AllReadyH.cons (o := _) rfl (fun Kc hKc => ?_) (AllReadyH.nil)
                        · refine step_append_at rfl _ _ 26 rfl pb 3 i0 (.int .i64 0) 1 8 Try.underlying26 hi0 iz0 iz1 iz2 rfl (by decide) bv P.b.length (intV P.b) rfl hP5.pv.b ⟨g2, 0, none⟩ 1 1 [.int .i64 rz] rfl rfl p2_5.news (by intro u hu; simp at hu; subst hu; rfl) (by unfold maxLen; omega) (by omega) hP5.sz ?_
                          intro v2 R6 o2 hg2 hat2
                          obtain ⟨qa2, qc2, rfl⟩ := kown_form o2
                          have hP6 := hP5.pb_ (by decide) (by decide) o2 hg2 hat2
                          clear p2_5 o2 hg2 hat2 hP5
                          refine hKc.out _ _ (HS.out _ hP6.box hP6.vbx) (fun hHeld => ?_)
                          clear hKc Kc
                          (try simp only [List.getElem_toArray, List.getElem_cons_zero, List.getElem_cons_succ, Act.put, List.setIfInBounds_toArray, List.set_cons_zero, List.set_cons_succ])
                          refine wpAnyH_done (by kernel_rfl) ?_ _
                          intro r
                          have b6 := hP6.box
                          have b7 : (R6.setCell ⟨pb, 0, none⟩ (.slice qa0 (P.rows.length + 1) qc0)).heap[pb]? = some (.cells #[.slice qa0 (P.rows.length + 1) qc0, ev, bv, cv] 32 (0, 0)) := by simpa using set_at (L := [rv, ev, bv, cv]) (k := 0) (v := .slice qa0 (P.rows.length + 1) qc0) b6
                          have b8 : ((R6.setCell ⟨pb, 0, none⟩ (.slice qa0 (P.rows.length + 1) qc0)).setCell ⟨pb, 1, none⟩ (.slice qa1 (P.rel.length + 1) qc1)).heap[pb]? = some (.cells #[.slice qa0 (P.rows.length + 1) qc0, .slice qa1 (P.rel.length + 1) qc1, bv, cv] 32 (0, 0)) := by simpa using set_at (L := [.slice qa0 (P.rows.length + 1) qc0, ev, bv, cv]) (k := 1) (v := .slice qa1 (P.rel.length + 1) qc1) b7
                          have b9 : (((R6.setCell ⟨pb, 0, none⟩ (.slice qa0 (P.rows.length + 1) qc0)).setCell ⟨pb, 1, none⟩ (.slice qa1 (P.rel.length + 1) qc1)).setCell ⟨pb, 2, none⟩ (.slice qa2 (P.b.length + 1) qc2)).heap[pb]? = some (.cells #[.slice qa0 (P.rows.length + 1) qc0, .slice qa1 (P.rel.length + 1) qc1, .slice qa2 (P.b.length + 1) qc2, cv] 32 (0, 0)) := by simpa using set_at (L := [.slice qa0 (P.rows.length + 1) qc0, .slice qa1 (P.rel.length + 1) qc1, bv, cv]) (k := 2) (v := .slice qa2 (P.b.length + 1) qc2) b8
                          have c60 := ibx b6 0 rv rfl
                          have f60 := free_at (L := [rv, ev, bv, cv]) b6 0
                          have c61 := ibx b6 1 ev rfl
                          have f61 := free_at (L := [rv, ev, bv, cv]) b6 1
                          have c62 := ibx b6 2 bv rfl
                          have f62 := free_at (L := [rv, ev, bv, cv]) b6 2
                          have h9 := ((hP6.pv.set (i := 0) b6 (by decide) (by decide) (.slice qa0 (P.rows.length + 1) qc0)).set (i := 1) b7 (by decide) (by decide) (.slice qa1 (P.rel.length + 1) qc1)).set (i := 2) b8 (by decide) (by decide) (.slice qa2 (P.b.length + 1) qc2)
                          have B9 : Below pb W5 (((R6.setCell ⟨pb, 0, none⟩ (.slice qa0 (P.rows.length + 1) qc0)).setCell ⟨pb, 1, none⟩ (.slice qa1 (P.rel.length + 1) qc1)).setCell ⟨pb, 2, none⟩ (.slice qa2 (P.b.length + 1) qc2)) := ((hP6.bel.setCell (p := ⟨pb, 0, none⟩) (Nat.le_refl _) _).setCell (p := ⟨pb, 1, none⟩) (Nat.le_refl _) _).setCell (p := ⟨pb, 2, none⟩) (Nat.le_refl _) _
                          have x9 : (((R6.setCell ⟨pb, 0, none⟩ (.slice qa0 (P.rows.length + 1) qc0)).setCell ⟨pb, 1, none⟩ (.slice qa1 (P.rel.length + 1) qc1)).setCell ⟨pb, 2, none⟩ (.slice qa2 (P.b.length + 1) qc2)).heap[w.heap.size + 1]? = some (.cells #[.slice none 0 0, .slice none 0 0, .slice none 0 0, .slice none 0 0] 32 (0, 0)) := by
                            rw [Below.heap_setCell _ _ _ _ HVP.out, Below.heap_setCell _ _ _ _ HVP.out, Below.heap_setCell _ _ _ _ HVP.out]
                            exact hP6.vbx
                          have s9 : pb ≤ (((R6.setCell ⟨pb, 0, none⟩ (.slice qa0 (P.rows.length + 1) qc0)).setCell ⟨pb, 1, none⟩ (.slice qa1 (P.rel.length + 1) qc1)).setCell ⟨pb, 2, none⟩ (.slice qa2 (P.b.length + 1) qc2)).heap.size := by simpa [World.setCell] using hP6.sz
                          clear hP6 b6 b7 b8 hHeld
                          refine wpAny_ready (rs := [15]) (by kernel_rfl) (by simp) ?_
                          refine AllReady.cons (o := _) rfl (fun Kc hKc => ?_) AllReady.nil
                          go_simp
                          refine hKc _ _ ?_
                          clear hKc Kc
                          (try simp only [List.getElem_toArray, List.getElem_cons_zero, List.getElem_cons_succ, Act.put, List.setIfInBounds_toArray, List.set_cons_zero, List.set_cons_succ])
                          refine wpAny_ready (rs := [16]) (by kernel_rfl) (by simp) ?_
                          refine AllReady.cons (o := _) rfl (fun Kc hKc => ?_) AllReady.nil
                          go_simp
                          refine hKc _ _ ?_
                          clear hKc Kc
                          (try simp only [List.getElem_toArray, List.getElem_cons_zero, List.getElem_cons_succ, Act.put, List.setIfInBounds_toArray, List.set_cons_zero, List.set_cons_succ])
                          refine wpAny_ready (rs := [17]) (by kernel_rfl) (by simp) ?_
                          refine AllReady.cons (o := _) rfl (fun Kc hKc => ?_) AllReady.nil
                          go_simp
                          refine hKc _ _ ?_
                          clear hKc Kc
                          (try simp only [List.getElem_toArray, List.getElem_cons_zero, List.getElem_cons_succ, Act.put, List.setIfInBounds_toArray, List.set_cons_zero, List.set_cons_succ])
                          refine wpAny_ready (rs := [18]) (by kernel_rfl) (by simp) ?_
                          refine AllReady.cons (o := _) rfl (fun Kc hKc => ?_) AllReady.nil
                          go_simp
                          refine hKc _ _ ?_
                          clear hKc Kc
                          (try simp only [List.getElem_toArray, List.getElem_cons_zero, List.getElem_cons_succ, Act.put, List.setIfInBounds_toArray, List.set_cons_zero, List.set_cons_succ])
                          refine wpAny_ready (rs := [19]) (by kernel_rfl) (by simp) ?_
                          refine AllReady.cons (o := _) rfl (fun Kc hKc => ?_) AllReady.nil
                          go_simp
                          refine hKc _ _ ?_
                          clear hKc Kc
                          (try simp only [List.getElem_toArray, List.getElem_cons_zero, List.getElem_cons_succ, Act.put, List.setIfInBounds_toArray, List.set_cons_zero, List.set_cons_succ])
                          refine wpAny_done (by kernel_rfl) ?_ _
                          refine NoPanic.normal ?_
                          clear c60 f60 c61 f61 c62 f62
                          generalize ((R6.setCell ⟨pb, 0, none⟩ (.slice qa0 (P.rows.length + 1) qc0)).setCell ⟨pb, 1, none⟩ (.slice qa1 (P.rel.length + 1) qc1)).setCell ⟨pb, 2, none⟩ (.slice qa2 (P.b.length + 1) qc2) = W9 at *
                          have HBX9 : Hid (Bx W9 W5 pb (P2 V net (k + 1))) := hid ⟨_, _, _, _, _, b9, by rw [HPS.out]; exact h9, B9, s9⟩
                          clear h9 b9 x9 B9 s9
                          go_wp2_with fail
                          go_roundw
                          case rel => exact ⟨k + 1, by omega, by go_num, HBX9⟩
                          case measure => simp [intOf]; omega
              · go_simp
                refine hKc.out _ _ (HS.out _ (hP0.alloc _).box (hP0.alloc _).vbx) (fun hHeld => ?_)
                clear hKc Kc
                (try simp only [List.getElem_toArray, List.getElem_cons_zero, List.getElem_cons_succ, Act.put, List.setIfInBounds_toArray, List.set_cons_zero, List.set_cons_succ])
                have hP1 := hP0.alloc (Obj.cells #[.int .i64 0] 3)
                have p1_1 := Pd.new hP0 3 (.int .i64 0)
                have io1 : IO (R0.alloc (Obj.cells #[.int .i64 0] 3)) pb (Value.slice (some ⟨w2.heap.size, 0, none⟩) V.length V.length) LU := World.ownsRow.alloc io0 _
                clear io0
                clear hP0
                generalize R0.alloc (Obj.cells #[.int .i64 0] 3) = R1 at *
                generalize R0.heap.size = g1 at *
                refine wpAnyH_ready (rs := [3, 12]) (by kernel_rfl) (by simp) ?_
                refine AllReadyH.cons (o := _) rfl (fun Kc hKc => ?_) (AllReadyH.cons (o := _) rfl (fun Kc hKc => ?_) (AllReadyH.nil))
                · go_simp
                  refine hKc.out _ _ (HS.out _ (hP1.alloc _).box (hP1.alloc _).vbx) (fun hHeld => ?_)
                  clear hKc Kc
                  (try simp only [List.getElem_toArray, List.getElem_cons_zero, List.getElem_cons_succ, Act.put, List.setIfInBounds_toArray, List.set_cons_zero, List.set_cons_succ])
                  have hP2 := hP1.alloc (Obj.cells #[(Value.slice (some ⟨w2.heap.size, 0, none⟩) V.length V.length)] 26)
                  have p0_2 := Pd.new hP1 26 ((Value.slice (some ⟨w2.heap.size, 0, none⟩) V.length V.length))
                  have p1_2 := p1_1.alloc (Obj.cells #[(Value.slice (some ⟨w2.heap.size, 0, none⟩) V.length V.length)] 26)
                  have io2 : IO (R1.alloc (Obj.cells #[(Value.slice (some ⟨w2.heap.size, 0, none⟩) V.length V.length)] 26)) pb (Value.slice (some ⟨w2.heap.size, 0, none⟩) V.length V.length) LU := World.ownsRow.alloc io1 _
                  clear io1
                  clear p1_1
                  clear hP1
                  generalize R1.alloc (Obj.cells #[(Value.slice (some ⟨w2.heap.size, 0, none⟩) V.length V.length)] 26) = R2 at *
                  generalize R1.heap.size = g0 at *
                  refine wpAnyH_ready (rs := [4, 12]) (by kernel_rfl) (by simp) ?_
                  refine AllReadyH.cons (o := _) rfl (fun Kc hKc => ?_) (AllReadyH.cons (o := _) rfl (fun Kc hKc => ?_) (AllReadyH.nil))
                  · refine step_append_at rfl _ _ 30 rfl pb 26 j0 (.slice none 0 0) 1 24 Try.underlying30 hj0 jz0 jz1 jz2 rfl (by decide) rv P.rows.length vs rfl hP2.pv.rows ⟨g0, 0, none⟩ 1 1 [(Value.slice (some ⟨w2.heap.size, 0, none⟩) V.length V.length)] rfl rfl p0_2.news (by intro u hu; simp at hu; subst hu; rfl) (by unfold maxLen; omega) (by omega) hP2.sz ?_
                    intro v0 R3 o0 hg0 hat0
                    obtain ⟨qa0, qc0, rfl⟩ := kown_form o0
                    have hP3 := hP2.pr (by decide) (by decide) (L := LU) io2 HD.out.1 HD.out.2.1 HD.out.2.2 o0 hg0
                    clear io2
                    have p1_3 := p1_2.gr hg0 hat0
                    clear p1_2
                    clear p0_2 o0 hg0 hat0 hP2
                    refine hKc.out _ _ (HS.out _ hP3.box hP3.vbx) (fun hHeld => ?_)
                    clear hKc Kc
                    (try simp only [List.getElem_toArray, List.getElem_cons_zero, List.getElem_cons_succ, Act.put, List.setIfInBounds_toArray, List.set_cons_zero, List.set_cons_succ])
                    refine wpAnyH_take (i := 14) (v := ?_) rfl (by kernel_rfl) (by kernel_rfl) (by kernel_rfl) (fun _ _ _ h => h) (Or.inl ⟨by rfl, ?_⟩) (by assumption) ?_
                    rotate_left
                    · intro w hSw
                      (try dsimp only at hSw)
                      go_simp
                      (try with_reducible rfl)
                    (try simp only [List.getElem_toArray, List.getElem_cons_zero, List.getElem_cons_succ, Act.put, List.setIfInBounds_toArray, List.set_cons_zero, List.set_cons_succ])
                    refine wpAnyH_ready (rs := [8, 12]) (by kernel_rfl) (by simp) ?_
                    refine AllReadyH.cons (o := _) rfl (fun Kc hKc => ?_) (AllReadyH.cons (o := _) rfl (fun Kc hKc => ?_) (AllReadyH.nil))
                    · refine step_append_at rfl _ _ 26 rfl pb 3 i0 (.int .i64 0) 1 8 Try.underlying26 hi0 iz0 iz1 iz2 rfl (by decide) ev P.rel.length (intV P.rel) rfl hP3.pv.rel ⟨g1, 0, none⟩ 1 1 [.int .i64 0] rfl rfl p1_3.news (by intro u hu; simp at hu; subst hu; rfl) (by unfold maxLen; omega) (by omega) hP3.sz ?_
                      intro v1 R4 o1 hg1 hat1
                      obtain ⟨qa1, qc1, rfl⟩ := kown_form o1
                      have hP4 := hP3.pe (by decide) (by decide) o1 hg1 hat1
                      clear p1_3 o1 hg1 hat1 hP3
                      refine hKc.out _ _ (HS.out _ hP4.box hP4.vbx) (fun hHeld => ?_)
                      clear hKc Kc
                      (try simp only [List.getElem_toArray, List.getElem_cons_zero, List.getElem_cons_succ, Act.put, List.setIfInBounds_toArray, List.set_cons_zero, List.set_cons_succ])
                      refine wpAnyH_ready (rs := [12]) (by kernel_rfl) (by simp) ?_
                      refine AllReadyH.cons (o := _) rfl (fun Kc hKc => ?_) (AllReadyH.nil)
                      · go_simp
                        refine hKc.out _ _ (HS.out _ (hP4.alloc _).box (hP4.alloc _).vbx) (fun hHeld => ?_)
                        clear hKc Kc
                        (try simp only [List.getElem_toArray, List.getElem_cons_zero, List.getElem_cons_succ, Act.put, List.setIfInBounds_toArray, List.set_cons_zero, List.set_cons_succ])
                        have hP5 := hP4.alloc (Obj.cells #[.int .i64 rz] 3)
                        have p2_5 := Pd.new hP4 3 (.int .i64 rz)
                        clear hP4
                        generalize R4.alloc (Obj.cells #[.int .i64 rz] 3) = R5 at *
                        generalize R4.heap.size = g2 at *
                        refine wpAnyH_ready (rs := [13]) (by kernel_rfl) (by simp) ?_
                        refine AllReadyH.cons (o := _) rfl (fun Kc hKc => ?_) (AllReadyH.nil)
                        · refine step_append_at rfl _ _ 26 rfl pb 3 i0 (.int .i64 0) 1 8 Try.underlying26 hi0 iz0 iz1 iz2 rfl (by decide) bv P.b.length (intV P.b) rfl hP5.pv.b ⟨g2, 0, none⟩ 1 1 [.int .i64 rz] rfl rfl p2_5.news (by intro u hu; simp at hu; subst hu; rfl) (by unfold maxLen; omega) (by omega) hP5.sz ?_
                          intro v2 R6 o2 hg2 hat2
                          obtain ⟨qa2, qc2, rfl⟩ := kown_form o2
                          have hP6 := hP5.pb_ (by decide) (by decide) o2 hg2 hat2
                          clear p2_5 o2 hg2 hat2 hP5
                          refine hKc.out _ _ (HS.out _ hP6.box hP6.vbx) (fun hHeld => ?_)
                          clear hKc Kc
                          (try simp only [List.getElem_toArray, List.getElem_cons_zero, List.getElem_cons_succ, Act.put, List.setIfInBounds_toArray, List.set_cons_zero, List.set_cons_succ])
                          refine wpAnyH_done (by kernel_rfl) ?_ _
                          intro r
                          have b6 := hP6.box
                          have b7 : (R6.setCell ⟨pb, 0, none⟩ (.slice qa0 (P.rows.length + 1) qc0)).heap[pb]? = some (.cells #[.slice qa0 (P.rows.length + 1) qc0, ev, bv, cv] 32 (0, 0)) := by simpa using set_at (L := [rv, ev, bv, cv]) (k := 0) (v := .slice qa0 (P.rows.length + 1) qc0) b6
                          have b8 : ((R6.setCell ⟨pb, 0, none⟩ (.slice qa0 (P.rows.length + 1) qc0)).setCell ⟨pb, 1, none⟩ (.slice qa1 (P.rel.length + 1) qc1)).heap[pb]? = some (.cells #[.slice qa0 (P.rows.length + 1) qc0, .slice qa1 (P.rel.length + 1) qc1, bv, cv] 32 (0, 0)) := by simpa using set_at (L := [.slice qa0 (P.rows.length + 1) qc0, ev, bv, cv]) (k := 1) (v := .slice qa1 (P.rel.length + 1) qc1) b7
                          have b9 : (((R6.setCell ⟨pb, 0, none⟩ (.slice qa0 (P.rows.length + 1) qc0)).setCell ⟨pb, 1, none⟩ (.slice qa1 (P.rel.length + 1) qc1)).setCell ⟨pb, 2, none⟩ (.slice qa2 (P.b.length + 1) qc2)).heap[pb]? = some (.cells #[.slice qa0 (P.rows.length + 1) qc0, .slice qa1 (P.rel.length + 1) qc1, .slice qa2 (P.b.length + 1) qc2, cv] 32 (0, 0)) := by simpa using set_at (L := [.slice qa0 (P.rows.length + 1) qc0, .slice qa1 (P.rel.length + 1) qc1, bv, cv]) (k := 2) (v := .slice qa2 (P.b.length + 1) qc2) b8
                          have c60 := ibx b6 0 rv rfl
                          have f60 := free_at (L := [rv, ev, bv, cv]) b6 0
                          have c61 := ibx b6 1 ev rfl
                          have f61 := free_at (L := [rv, ev, bv, cv]) b6 1
                          have c62 := ibx b6 2 bv rfl
                          have f62 := free_at (L := [rv, ev, bv, cv]) b6 2
                          have h9 := ((hP6.pv.set (i := 0) b6 (by decide) (by decide) (.slice qa0 (P.rows.length + 1) qc0)).set (i := 1) b7 (by decide) (by decide) (.slice qa1 (P.rel.length + 1) qc1)).set (i := 2) b8 (by decide) (by decide) (.slice qa2 (P.b.length + 1) qc2)
                          have B9 : Below pb W5 (((R6.setCell ⟨pb, 0, none⟩ (.slice qa0 (P.rows.length + 1) qc0)).setCell ⟨pb, 1, none⟩ (.slice qa1 (P.rel.length + 1) qc1)).setCell ⟨pb, 2, none⟩ (.slice qa2 (P.b.length + 1) qc2)) := ((hP6.bel.setCell (p := ⟨pb, 0, none⟩) (Nat.le_refl _) _).setCell (p := ⟨pb, 1, none⟩) (Nat.le_refl _) _).setCell (p := ⟨pb, 2, none⟩) (Nat.le_refl _) _
                          have x9 : (((R6.setCell ⟨pb, 0, none⟩ (.slice qa0 (P.rows.length + 1) qc0)).setCell ⟨pb, 1, none⟩ (.slice qa1 (P.rel.length + 1) qc1)).setCell ⟨pb, 2, none⟩ (.slice qa2 (P.b.length + 1) qc2)).heap[w.heap.size + 1]? = some (.cells #[.slice none 0 0, .slice none 0 0, .slice none 0 0, .slice none 0 0] 32 (0, 0)) := by
                            rw [Below.heap_setCell _ _ _ _ HVP.out, Below.heap_setCell _ _ _ _ HVP.out, Below.heap_setCell _ _ _ _ HVP.out]
                            exact hP6.vbx
                          have s9 : pb ≤ (((R6.setCell ⟨pb, 0, none⟩ (.slice qa0 (P.rows.length + 1) qc0)).setCell ⟨pb, 1, none⟩ (.slice qa1 (P.rel.length + 1) qc1)).setCell ⟨pb, 2, none⟩ (.slice qa2 (P.b.length + 1) qc2)).heap.size := by simpa [World.setCell] using hP6.sz
                          clear hP6 b6 b7 b8 hHeld
                          refine wpAny_ready (rs := [15]) (by kernel_rfl) (by simp) ?_
                          refine AllReady.cons (o := _) rfl (fun Kc hKc => ?_) AllReady.nil
                          go_simp
                          refine hKc _ _ ?_
                          clear hKc Kc
                          (try simp only [List.getElem_toArray, List.getElem_cons_zero, List.getElem_cons_succ, Act.put, List.setIfInBounds_toArray, List.set_cons_zero, List.set_cons_succ])
                          refine wpAny_ready (rs := [16]) (by kernel_rfl) (by simp) ?_
                          refine AllReady.cons (o := _) rfl (fun Kc hKc => ?_) AllReady.nil
                          go_simp
                          refine hKc _ _ ?_
                          clear hKc Kc
                          (try simp only [List.getElem_toArray, List.getElem_cons_zero, List.getElem_cons_succ, Act.put, List.setIfInBounds_toArray, List.set_cons_zero, List.set_cons_succ])
                          refine wpAny_ready (rs := [17]) (by kernel_rfl) (by simp) ?_
                          refine AllReady.cons (o := _) rfl (fun Kc hKc => ?_) AllReady.nil
                          go_simp
                          refine hKc _ _ ?_
                          clear hKc Kc
                          (try simp only [List.getElem_toArray, List.getElem_cons_zero, List.getElem_cons_succ, Act.put, List.setIfInBounds_toArray, List.set_cons_zero, List.set_cons_succ])
                          refine wpAny_ready (rs := [18]) (by kernel_rfl) (by simp) ?_
                          refine AllReady.cons (o := _) rfl (fun Kc hKc => ?_) AllReady.nil
                          go_simp
                          refine hKc _ _ ?_
                          clear hKc Kc
                          (try simp only [List.getElem_toArray, List.getElem_cons_zero, List.getElem_cons_succ, Act.put, List.setIfInBounds_toArray, List.set_cons_zero, List.set_cons_succ])
                          refine wpAny_ready (rs := [19]) (by kernel_rfl) (by simp) ?_
                          refine AllReady.cons (o := _) rfl (fun Kc hKc => ?_) AllReady.nil
                          go_simp
                          refine hKc _ _ ?_
                          clear hKc Kc
                          (try simp only [List.getElem_toArray, List.getElem_cons_zero, List.getElem_cons_succ, Act.put, List.setIfInBounds_toArray, List.set_cons_zero, List.set_cons_succ])
                          refine wpAny_done (by kernel_rfl) ?_ _
                          refine NoPanic.normal ?_
                          clear c60 f60 c61 f61 c62 f62
                          generalize ((R6.setCell ⟨pb, 0, none⟩ (.slice qa0 (P.rows.length + 1) qc0)).setCell ⟨pb, 1, none⟩ (.slice qa1 (P.rel.length + 1) qc1)).setCell ⟨pb, 2, none⟩ (.slice qa2 (P.b.length + 1) qc2) = W9 at *
                          have HBX9 : Hid (Bx W9 W5 pb (P2 V net (k + 1))) := hid ⟨_, _, _, _, _, b9, by rw [HPS.out]; exact h9, B9, s9⟩
                          clear h9 b9 x9 B9 s9
                          go_wp2_with fail
                          go_roundw
                          case rel => exact ⟨k + 1, by omega, by go_num, HBX9⟩
                          case measure => simp [intOf]; omega
                    · go_simp
                      refine hKc.out _ _ (HS.out _ (hP3.alloc _).box (hP3.alloc _).vbx) (fun hHeld => ?_)
                      clear hKc Kc
                      (try simp only [List.getElem_toArray, List.getElem_cons_zero, List.getElem_cons_succ, Act.put, List.setIfInBounds_toArray, List.set_cons_zero, List.set_cons_succ])
                      have hP4 := hP3.alloc (Obj.cells #[.int .i64 rz] 3)
                      have p2_4 := Pd.new hP3 3 (.int .i64 rz)
                      have p1_4 := p1_3.alloc (Obj.cells #[.int .i64 rz] 3)
                      clear p1_3
                      clear hP3
                      generalize R3.alloc (Obj.cells #[.int .i64 rz] 3) = R4 at *
                      generalize R3.heap.size = g2 at *
                      refine wpAnyH_ready (rs := [8]) (by kernel_rfl) (by simp) ?_
                      refine AllReadyH.cons (o := _) rfl (fun Kc hKc => ?_) (AllReadyH.nil)
                      · refine step_append_at rfl _ _ 26 rfl pb 3 i0 (.int .i64 0) 1 8 Try.underlying26 hi0 iz0 iz1 iz2 rfl (by decide) ev P.rel.length (intV P.rel) rfl hP4.pv.rel ⟨g1, 0, none⟩ 1 1 [.int .i64 0] rfl rfl p1_4.news (by intro u hu; simp at hu; subst hu; rfl) (by unfold maxLen; omega) (by omega) hP4.sz ?_
                        intro v1 R5 o1 hg1 hat1
                        obtain ⟨qa1, qc1, rfl⟩ := kown_form o1
                        have hP5 := hP4.pe (by decide) (by decide) o1 hg1 hat1
                        have p2_5 := p2_4.ge hg1 hat1
                        clear p2_4
                        clear p1_4 o1 hg1 hat1 hP4
                        refine hKc.out _ _ (HS.out _ hP5.box hP5.vbx) (fun hHeld => ?_)
                        clear hKc Kc
                        (try simp only [List.getElem_toArray, List.getElem_cons_zero, List.getElem_cons_succ, Act.put, List.setIfInBounds_toArray, List.set_cons_zero, List.set_cons_succ])
                        refine wpAnyH_ready (rs := [13]) (by kernel_rfl) (by simp) ?_
                        refine AllReadyH.cons (o := _) rfl (fun Kc hKc => ?_) (AllReadyH.nil)
                        · refine step_append_at rfl _ _ 26 rfl pb 3 i0 (.int .i64 0) 1 8 Try.underlying26 hi0 iz0 iz1 iz2 rfl (by decide) bv P.b.length (intV P.b) rfl hP5.pv.b ⟨g2, 0, none⟩ 1 1 [.int .i64 rz] rfl rfl p2_5.news (by intro u hu; simp at hu; subst hu; rfl) (by unfold maxLen; omega) (by omega) hP5.sz ?_
                          intro v2 R6 o2 hg2 hat2
                          obtain ⟨qa2, qc2, rfl⟩ := kown_form o2
                          have hP6 := hP5.pb_ (by decide) (by decide) o2 hg2 hat2
                          clear p2_5 o2 hg2 hat2 hP5
                          refine hKc.out _ _ (HS.out _ hP6.box hP6.vbx) (fun hHeld => ?_)
                          clear hKc Kc
                          (try simp only [List.getElem_toArray, List.getElem_cons_zero, List.getElem_cons_succ, Act.put, List.setIfInBounds_toArray, List.set_cons_zero, List.set_cons_succ])
                          refine wpAnyH_done (by kernel_rfl) ?_ _
                          intro r
                          have b6 := hP6.box
                          have b7 : (R6.setCell ⟨pb, 0, none⟩ (.slice qa0 (P.rows.length + 1) qc0)).heap[pb]? = some (.cells #[.slice qa0 (P.rows.length + 1) qc0, ev, bv, cv] 32 (0, 0)) := by simpa using set_at (L := [rv, ev, bv, cv]) (k := 0) (v := .slice qa0 (P.rows.length + 1) qc0) b6
                          have b8 : ((R6.setCell ⟨pb, 0, none⟩ (.slice qa0 (P.rows.length + 1) qc0)).setCell ⟨pb, 1, none⟩ (.slice qa1 (P.rel.length + 1) qc1)).heap[pb]? = some (.cells #[.slice qa0 (P.rows.length + 1) qc0, .slice qa1 (P.rel.length + 1) qc1, bv, cv] 32 (0, 0)) := by simpa using set_at (L := [.slice qa0 (P.rows.length + 1) qc0, ev, bv, cv]) (k := 1) (v := .slice qa1 (P.rel.length + 1) qc1) b7
                          have b9 : (((R6.setCell ⟨pb, 0, none⟩ (.slice qa0 (P.rows.length + 1) qc0)).setCell ⟨pb, 1, none⟩ (.slice qa1 (P.rel.length + 1) qc1)).setCell ⟨pb, 2, none⟩ (.slice qa2 (P.b.length + 1) qc2)).heap[pb]? = some (.cells #[.slice qa0 (P.rows.length + 1) qc0, .slice qa1 (P.rel.length + 1) qc1, .slice qa2 (P.b.length + 1) qc2, cv] 32 (0, 0)) := by simpa using set_at (L := [.slice qa0 (P.rows.length + 1) qc0, .slice qa1 (P.rel.length + 1) qc1, bv, cv]) (k := 2) (v := .slice qa2 (P.b.length + 1) qc2) b8
                          have c60 := ibx b6 0 rv rfl
                          have f60 := free_at (L := [rv, ev, bv, cv]) b6 0
                          have c61 := ibx b6 1 ev rfl
                          have f61 := free_at (L := [rv, ev, bv, cv]) b6 1
                          have c62 := ibx b6 2 bv rfl
                          have f62 := free_at (L := [rv, ev, bv, cv]) b6 2
                          have h9 := ((hP6.pv.set (i := 0) b6 (by decide) (by decide) (.slice qa0 (P.rows.length + 1) qc0)).set (i := 1) b7 (by decide) (by decide) (.slice qa1 (P.rel.length + 1) qc1)).set (i := 2) b8 (by decide) (by decide) (.slice qa2 (P.b.length + 1) qc2)
                          have B9 : Below pb W5 (((R6.setCell ⟨pb, 0, none⟩ (.slice qa0 (P.rows.length + 1) qc0)).setCell ⟨pb, 1, none⟩ (.slice qa1 (P.rel.length + 1) qc1)).setCell ⟨pb, 2, none⟩ (.slice qa2 (P.b.length + 1) qc2)) := ((hP6.bel.setCell (p := ⟨pb, 0, none⟩) (Nat.le_refl _) _).setCell (p := ⟨pb, 1, none⟩) (Nat.le_refl _) _).setCell (p := ⟨pb, 2, none⟩) (Nat.le_refl _) _
                          have x9 : (((R6.setCell ⟨pb, 0, none⟩ (.slice qa0 (P.rows.length + 1) qc0)).setCell ⟨pb, 1, none⟩ (.slice qa1 (P.rel.length + 1) qc1)).setCell ⟨pb, 2, none⟩ (.slice qa2 (P.b.length + 1) qc2)).heap[w.heap.size + 1]? = some (.cells #[.slice none 0 0, .slice none 0 0, .slice none 0 0, .slice none 0 0] 32 (0, 0)) := by
                            rw [Below.heap_setCell _ _ _ _ HVP.out, Below.heap_setCell _ _ _ _ HVP.out, Below.heap_setCell _ _ _ _ HVP.out]
                            exact hP6.vbx
                          have s9 : pb ≤ (((R6.setCell ⟨pb, 0, none⟩ (.slice qa0 (P.rows.length + 1) qc0)).setCell ⟨pb, 1, none⟩ (.slice qa1 (P.rel.length + 1) qc1)).setCell ⟨pb, 2, none⟩ (.slice qa2 (P.b.length + 1) qc2)).heap.size := by simpa [World.setCell] using hP6.sz
                          clear hP6 b6 b7 b8 hHeld
                          refine wpAny_ready (rs := [15]) (by kernel_rfl) (by simp) ?_
                          refine AllReady.cons (o := _) rfl (fun Kc hKc => ?_) AllReady.nil
                          go_simp
                          refine hKc _ _ ?_
                          clear hKc Kc
                          (try simp only [List.getElem_toArray, List.getElem_cons_zero, List.getElem_cons_succ, Act.put, List.setIfInBounds_toArray, List.set_cons_zero, List.set_cons_succ])
                          refine wpAny_ready (rs := [16]) (by kernel_rfl) (by simp) ?_
                          refine AllReady.cons (o := _) rfl (fun Kc hKc => ?_) AllReady.nil
                          go_simp
                          refine hKc _ _ ?_
                          clear hKc Kc
                          (try simp only [List.getElem_toArray, List.getElem_cons_zero, List.getElem_cons_succ, Act.put, List.setIfInBounds_toArray, List.set_cons_zero, List.set_cons_succ])
                          refine wpAny_ready (rs := [17]) (by kernel_rfl) (by simp) ?_
                          refine AllReady.cons (o := _) rfl (fun Kc hKc => ?_) AllReady.nil
                          go_simp
                          refine hKc _ _ ?_
                          clear hKc Kc
                          (try simp only [List.getElem_toArray, List.getElem_cons_zero, List.getElem_cons_succ, Act.put, List.setIfInBounds_toArray, List.set_cons_zero, List.set_cons_succ])
                          refine wpAny_ready (rs := [18]) (by kernel_rfl) (by simp) ?_
                          refine AllReady.cons (o := _) rfl (fun Kc hKc => ?_) AllReady.nil
                          go_simp
                          refine hKc _ _ ?_
                          clear hKc Kc
                          (try simp only [List.getElem_toArray, List.getElem_cons_zero, List.getElem_cons_succ, Act.put, List.setIfInBounds_toArray, List.set_cons_zero, List.set_cons_succ])
                          refine wpAny_ready (rs := [19]) (by kernel_rfl) (by simp) ?_
                          refine AllReady.cons (o := _) rfl (fun Kc hKc => ?_) AllReady.nil
                          go_simp
                          refine hKc _ _ ?_
                          clear hKc Kc
                          (try simp only [List.getElem_toArray, List.getElem_cons_zero, List.getElem_cons_succ, Act.put, List.setIfInBounds_toArray, List.set_cons_zero, List.set_cons_succ])
                          refine wpAny_done (by kernel_rfl) ?_ _
                          refine NoPanic.normal ?_
                          clear c60 f60 c61 f61 c62 f62
                          generalize ((R6.setCell ⟨pb, 0, none⟩ (.slice qa0 (P.rows.length + 1) qc0)).setCell ⟨pb, 1, none⟩ (.slice qa1 (P.rel.length + 1) qc1)).setCell ⟨pb, 2, none⟩ (.slice qa2 (P.b.length + 1) qc2) = W9 at *
                          have HBX9 : Hid (Bx W9 W5 pb (P2 V net (k + 1))) := hid ⟨_, _, _, _, _, b9, by rw [HPS.out]; exact h9, B9, s9⟩
                          clear h9 b9 x9 B9 s9
                          go_wp2_with fail
                          go_roundw
                          case rel => exact ⟨k + 1, by omega, by go_num, HBX9⟩
                          case measure => simp [intOf]; omega
                  · go_simp
                    refine hKc.out _ _ (HS.out _ (hP2.alloc _).box (hP2.alloc _).vbx) (fun hHeld => ?_)
                    clear hKc Kc
                    (try simp only [List.getElem_toArray, List.getElem_cons_zero, List.getElem_cons_succ, Act.put, List.setIfInBounds_toArray, List.set_cons_zero, List.set_cons_succ])
                    have hP3 := hP2.alloc (Obj.cells #[.int .i64 rz] 3)
                    have p2_3 := Pd.new hP2 3 (.int .i64 rz)
                    have p0_3 := p0_2.alloc (Obj.cells #[.int .i64 rz] 3)
                    have p1_3 := p1_2.alloc (Obj.cells #[.int .i64 rz] 3)
                    have io3 : IO (R2.alloc (Obj.cells #[.int .i64 rz] 3)) pb (Value.slice (some ⟨w2.heap.size, 0, none⟩) V.length V.length) LU := World.ownsRow.alloc io2 _
                    clear io2
                    clear p0_2
                    clear p1_2
                    clear hP2
                    generalize R2.alloc (Obj.cells #[.int .i64 rz] 3) = R3 at *
                    generalize R2.heap.size = g2 at *
                    refine wpAnyH_ready (rs := [4]) (by kernel_rfl) (by simp) ?_
                    refine AllReadyH.cons (o := _) rfl (fun Kc hKc => ?_) (AllReadyH.nil)
                    · refine step_append_at rfl _ _ 30 rfl pb 26 j0 (.slice none 0 0) 1 24 Try.underlying30 hj0 jz0 jz1 jz2 rfl (by decide) rv P.rows.length vs rfl hP3.pv.rows ⟨g0, 0, none⟩ 1 1 [(Value.slice (some ⟨w2.heap.size, 0, none⟩) V.length V.length)] rfl rfl p0_3.news (by intro u hu; simp at hu; subst hu; rfl) (by unfold maxLen; omega) (by omega) hP3.sz ?_
                      intro v0 R4 o0 hg0 hat0
                      obtain ⟨qa0, qc0, rfl⟩ := kown_form o0
                      have hP4 := hP3.pr (by decide) (by decide) (L := LU) io3 HD.out.1 HD.out.2.1 HD.out.2.2 o0 hg0
                      clear io3
                      have p1_4 := p1_3.gr hg0 hat0
                      clear p1_3
                      have p2_4 := p2_3.gr hg0 hat0
                      clear p2_3
                      clear p0_3 o0 hg0 hat0 hP3
                      refine hKc.out _ _ (HS.out _ hP4.box hP4.vbx) (fun hHeld => ?_)
                      clear hKc Kc
                      (try simp only [List.getElem_toArray, List.getElem_cons_zero, List.getElem_cons_succ, Act.put, List.setIfInBounds_toArray, List.set_cons_zero, List.set_cons_succ])
                      refine wpAnyH_take (i := 14) (v := ?_) rfl (by kernel_rfl) (by kernel_rfl) (by kernel_rfl) (fun _ _ _ h => h) (Or.inl ⟨by rfl, ?_⟩) (by assumption) ?_
                      rotate_left
                      · intro w hSw
                        (try dsimp only at hSw)
                        go_simp
                        (try with_reducible rfl)
                      (try simp only [List.getElem_toArray, List.getElem_cons_zero, List.getElem_cons_succ, Act.put, List.setIfInBounds_toArray, List.set_cons_zero, List.set_cons_succ])
                      refine wpAnyH_ready (rs := [8]) (by kernel_rfl) (by simp) ?_
                      refine AllReadyH.cons (o := _) rfl (fun Kc hKc => ?_) (AllReadyH.nil)
                      · refine step_append_at rfl _ _ 26 rfl pb 3 i0 (.int .i64 0) 1 8 Try.underlying26 hi0 iz0 iz1 iz2 rfl (by decide) ev P.rel.length (intV P.rel) rfl hP4.pv.rel ⟨g1, 0, none⟩ 1 1 [.int .i64 0] rfl rfl p1_4.news (by intro u hu; simp at hu; subst hu; rfl) (by unfold maxLen; omega) (by omega) hP4.sz ?_
                        intro v1 R5 o1 hg1 hat1
                        obtain ⟨qa1, qc1, rfl⟩ := kown_form o1
                        have hP5 := hP4.pe (by decide) (by decide) o1 hg1 hat1
                        have p2_5 := p2_4.ge hg1 hat1
                        clear p2_4
                        clear p1_4 o1 hg1 hat1 hP4
                        refine hKc.out _ _ (HS.out _ hP5.box hP5.vbx) (fun hHeld => ?_)
                        clear hKc Kc
                        (try simp only [List.getElem_toArray, List.getElem_cons_zero, List.getElem_cons_succ, Act.put, List.setIfInBounds_toArray, List.set_cons_zero, List.set_cons_succ])
                        refine wpAnyH_ready (rs := [13]) (by kernel_rfl) (by simp) ?_
                        refine AllReadyH.cons (o := _) rfl (fun Kc hKc => ?_) (AllReadyH.nil)
                        · refine step_append_at rfl _ _ 26 rfl pb 3 i0 (.int .i64 0) 1 8 Try.underlying26 hi0 iz0 iz1 iz2 rfl (by decide) bv P.b.length (intV P.b) rfl hP5.pv.b ⟨g2, 0, none⟩ 1 1 [.int .i64 rz] rfl rfl p2_5.news (by intro u hu; simp at hu; subst hu; rfl) (by unfold maxLen; omega) (by omega) hP5.sz ?_
                          intro v2 R6 o2 hg2 hat2
                          obtain ⟨qa2, qc2, rfl⟩ := kown_form o2
                          have hP6 := hP5.pb_ (by decide) (by decide) o2 hg2 hat2
                          clear p2_5 o2 hg2 hat2 hP5
                          refine hKc.out _ _ (HS.out _ hP6.box hP6.vbx) (fun hHeld => ?_)
                          clear hKc Kc
                          (try simp only [List.getElem_toArray, List.getElem_cons_zero, List.getElem_cons_succ, Act.put, List.setIfInBounds_toArray, List.set_cons_zero, List.set_cons_succ])
                          refine wpAnyH_done (by kernel_rfl) ?_ _
                          intro r
                          have b6 := hP6.box
                          have b7 : (R6.setCell ⟨pb, 0, none⟩ (.slice qa0 (P.rows.length + 1) qc0)).heap[pb]? = some (.cells #[.slice qa0 (P.rows.length + 1) qc0, ev, bv, cv] 32 (0, 0)) := by simpa using set_at (L := [rv, ev, bv, cv]) (k := 0) (v := .slice qa0 (P.rows.length + 1) qc0) b6
                          have b8 : ((R6.setCell ⟨pb, 0, none⟩ (.slice qa0 (P.rows.length + 1) qc0)).setCell ⟨pb, 1, none⟩ (.slice qa1 (P.rel.length + 1) qc1)).heap[pb]? = some (.cells #[.slice qa0 (P.rows.length + 1) qc0, .slice qa1 (P.rel.length + 1) qc1, bv, cv] 32 (0, 0)) := by simpa using set_at (L := [.slice qa0 (P.rows.length + 1) qc0, ev, bv, cv]) (k := 1) (v := .slice qa1 (P.rel.length + 1) qc1) b7
                          have b9 : (((R6.setCell ⟨pb, 0, none⟩ (.slice qa0 (P.rows.length + 1) qc0)).setCell ⟨pb, 1, none⟩ (.slice qa1 (P.rel.length + 1) qc1)).setCell ⟨pb, 2, none⟩ (.slice qa2 (P.b.length + 1) qc2)).heap[pb]? = some (.cells #[.slice qa0 (P.rows.length + 1) qc0, .slice qa1 (P.rel.length + 1) qc1, .slice qa2 (P.b.length + 1) qc2, cv] 32 (0, 0)) := by simpa using set_at (L := [.slice qa0 (P.rows.length + 1) qc0, .slice qa1 (P.rel.length + 1) qc1, bv, cv]) (k := 2) (v := .slice qa2 (P.b.length + 1) qc2) b8
                          have c60 := ibx b6 0 rv rfl
                          have f60 := free_at (L := [rv, ev, bv, cv]) b6 0
                          have c61 := ibx b6 1 ev rfl
                          have f61 := free_at (L := [rv, ev, bv, cv]) b6 1
                          have c62 := ibx b6 2 bv rfl
                          have f62 := free_at (L := [rv, ev, bv, cv]) b6 2
                          have h9 := ((hP6.pv.set (i := 0) b6 (by decide) (by decide) (.slice qa0 (P.rows.length + 1) qc0)).set (i := 1) b7 (by decide) (by decide) (.slice qa1 (P.rel.length + 1) qc1)).set (i := 2) b8 (by decide) (by decide) (.slice qa2 (P.b.length + 1) qc2)
                          have B9 : Below pb W5 (((R6.setCell ⟨pb, 0, none⟩ (.slice qa0 (P.rows.length + 1) qc0)).setCell ⟨pb, 1, none⟩ (.slice qa1 (P.rel.length + 1) qc1)).setCell ⟨pb, 2, none⟩ (.slice qa2 (P.b.length + 1) qc2)) := ((hP6.bel.setCell (p := ⟨pb, 0, none⟩) (Nat.le_refl _) _).setCell (p := ⟨pb, 1, none⟩) (Nat.le_refl _) _).setCell (p := ⟨pb, 2, none⟩) (Nat.le_refl _) _
                          have x9 : (((R6.setCell ⟨pb, 0, none⟩ (.slice qa0 (P.rows.length + 1) qc0)).setCell ⟨pb, 1, none⟩ (.slice qa1 (P.rel.length + 1) qc1)).setCell ⟨pb, 2, none⟩ (.slice qa2 (P.b.length + 1) qc2)).heap[w.heap.size + 1]? = some (.cells #[.slice none 0 0, .slice none 0 0, .slice none 0 0, .slice none 0 0] 32 (0, 0)) := by
                            rw [Below.heap_setCell _ _ _ _ HVP.out, Below.heap_setCell _ _ _ _ HVP.out, Below.heap_setCell _ _ _ _ HVP.out]
                            exact hP6.vbx
                          have s9 : pb ≤ (((R6.setCell ⟨pb, 0, none⟩ (.slice qa0 (P.rows.length + 1) qc0)).setCell ⟨pb, 1, none⟩ (.slice qa1 (P.rel.length + 1) qc1)).setCell ⟨pb, 2, none⟩ (.slice qa2 (P.b.length + 1) qc2)).heap.size := by simpa [World.setCell] using hP6.sz
                          clear hP6 b6 b7 b8 hHeld
                          refine wpAny_ready (rs := [15]) (by kernel_rfl) (by simp) ?_
                          refine AllReady.cons (o := _) rfl (fun Kc hKc => ?_) AllReady.nil
                          go_simp
                          refine hKc _ _ ?_
                          clear hKc Kc
                          (try simp only [List.getElem_toArray, List.getElem_cons_zero, List.getElem_cons_succ, Act.put, List.setIfInBounds_toArray, List.set_cons_zero, List.set_cons_succ])
                          refine wpAny_ready (rs := [16]) (by kernel_rfl) (by simp) ?_
                          refine AllReady.cons (o := _) rfl (fun Kc hKc => ?_) AllReady.nil
                          go_simp
                          refine hKc _ _ ?_
                          clear hKc Kc
                          (try simp only [List.getElem_toArray, List.getElem_cons_zero, List.getElem_cons_succ, Act.put, List.setIfInBounds_toArray, List.set_cons_zero, List.set_cons_succ])
                          refine wpAny_ready (rs := [17]) (by kernel_rfl) (by simp) ?_
                          refine AllReady.cons (o := _) rfl (fun Kc hKc => ?_) AllReady.nil
                          go_simp
                          refine hKc _ _ ?_
                          clear hKc Kc
                          (try simp only [List.getElem_toArray, List.getElem_cons_zero, List.getElem_cons_succ, Act.put, List.setIfInBounds_toArray, List.set_cons_zero, List.set_cons_succ])
                          refine wpAny_ready (rs := [18]) (by kernel_rfl) (by simp) ?_
                          refine AllReady.cons (o := _) rfl (fun Kc hKc => ?_) AllReady.nil
                          go_simp
                          refine hKc _ _ ?_
                          clear hKc Kc
                          (try simp only [List.getElem_toArray, List.getElem_cons_zero, List.getElem_cons_succ, Act.put, List.setIfInBounds_toArray, List.set_cons_zero, List.set_cons_succ])
                          refine wpAny_ready (rs := [19]) (by kernel_rfl) (by simp) ?_
                          refine AllReady.cons (o := _) rfl (fun Kc hKc => ?_) AllReady.nil
                          go_simp
                          refine hKc _ _ ?_
                          clear hKc Kc
                          (try simp only [List.getElem_toArray, List.getElem_cons_zero, List.getElem_cons_succ, Act.put, List.setIfInBounds_toArray, List.set_cons_zero, List.set_cons_succ])
                          refine wpAny_done (by kernel_rfl) ?_ _
                          refine NoPanic.normal ?_
                          clear c60 f60 c61 f61 c62 f62
                          generalize ((R6.setCell ⟨pb, 0, none⟩ (.slice qa0 (P.rows.length + 1) qc0)).setCell ⟨pb, 1, none⟩ (.slice qa1 (P.rel.length + 1) qc1)).setCell ⟨pb, 2, none⟩ (.slice qa2 (P.b.length + 1) qc2) = W9 at *
                          have HBX9 : Hid (Bx W9 W5 pb (P2 V net (k + 1))) := hid ⟨_, _, _, _, _, b9, by rw [HPS.out]; exact h9, B9, s9⟩
                          clear h9 b9 x9 B9 s9
                          go_wp2_with fail
                          go_roundw
                          case rel => exact ⟨k + 1, by omega, by go_num, HBX9⟩
                          case measure => simp [intOf]; omega
                · go_simp
                  refine hKc.out _ _ (HS.out _ (hP1.alloc _).box (hP1.alloc _).vbx) (fun hHeld => ?_)
                  clear hKc Kc
                  (try simp only [List.getElem_toArray, List.getElem_cons_zero, List.getElem_cons_succ, Act.put, List.setIfInBounds_toArray, List.set_cons_zero, List.set_cons_succ])
                  have hP2 := hP1.alloc (Obj.cells #[.int .i64 rz] 3)
                  have p2_2 := Pd.new hP1 3 (.int .i64 rz)
                  have p1_2 := p1_1.alloc (Obj.cells #[.int .i64 rz] 3)
                  have io2 : IO (R1.alloc (Obj.cells #[.int .i64 rz] 3)) pb (Value.slice (some ⟨w2.heap.size, 0, none⟩) V.length V.length) LU := World.ownsRow.alloc io1 _
                  clear io1
                  clear p1_1
                  clear hP1
                  generalize R1.alloc (Obj.cells #[.int .i64 rz] 3) = R2 at *
                  generalize R1.heap.size = g2 at *
                  refine wpAnyH_ready (rs := [3]) (by kernel_rfl) (by simp) ?_
                  refine AllReadyH.cons (o := _) rfl (fun Kc hKc => ?_) (AllReadyH.nil)
                  · go_simp
                    refine hKc.out _ _ (HS.out _ (hP2.alloc _).box (hP2.alloc _).vbx) (fun hHeld => ?_)
                    clear hKc Kc
                    (try simp only [List.getElem_toArray, List.getElem_cons_zero, List.getElem_cons_succ, Act.put, List.setIfInBounds_toArray, List.set_cons_zero, List.set_cons_succ])
                    have hP3 := hP2.alloc (Obj.cells #[(Value.slice (some ⟨w2.heap.size, 0, none⟩) V.length V.length)] 26)
                    have p0_3 := Pd.new hP2 26 ((Value.slice (some ⟨w2.heap.size, 0, none⟩) V.length V.length))
                    have p1_3 := p1_2.alloc (Obj.cells #[(Value.slice (some ⟨w2.heap.size, 0, none⟩) V.length V.length)] 26)
                    have p2_3 := p2_2.alloc (Obj.cells #[(Value.slice (some ⟨w2.heap.size, 0, none⟩) V.length V.length)] 26)
                    have io3 : IO (R2.alloc (Obj.cells #[(Value.slice (some ⟨w2.heap.size, 0, none⟩) V.length V.length)] 26)) pb (Value.slice (some ⟨w2.heap.size, 0, none⟩) V.length V.length) LU := World.ownsRow.alloc io2 _
                    clear io2
                    clear p1_2
                    clear p2_2
                    clear hP2
                    generalize R2.alloc (Obj.cells #[(Value.slice (some ⟨w2.heap.size, 0, none⟩) V.length V.length)] 26) = R3 at *
                    generalize R2.heap.size = g0 at *
                    refine wpAnyH_ready (rs := [4]) (by kernel_rfl) (by simp) ?_
                    refine AllReadyH.cons (o := _) rfl (fun Kc hKc => ?_) (AllReadyH.nil)
                    · refine step_append_at rfl _ _ 30 rfl pb 26 j0 (.slice none 0 0) 1 24 Try.underlying30 hj0 jz0 jz1 jz2 rfl (by decide) rv P.rows.length vs rfl hP3.pv.rows ⟨g0, 0, none⟩ 1 1 [(Value.slice (some ⟨w2.heap.size, 0, none⟩) V.length V.length)] rfl rfl p0_3.news (by intro u hu; simp at hu; subst hu; rfl) (by unfold maxLen; omega) (by omega) hP3.sz ?_
                      intro v0 R4 o0 hg0 hat0
                      obtain ⟨qa0, qc0, rfl⟩ := kown_form o0
                      have hP4 := hP3.pr (by decide) (by decide) (L := LU) io3 HD.out.1 HD.out.2.1 HD.out.2.2 o0 hg0
                      clear io3
                      have p1_4 := p1_3.gr hg0 hat0
                      clear p1_3
                      have p2_4 := p2_3.gr hg0 hat0
                      clear p2_3
                      clear p0_3 o0 hg0 hat0 hP3
                      refine hKc.out _ _ (HS.out _ hP4.box hP4.vbx) (fun hHeld => ?_)
                      clear hKc Kc
                      (try simp only [List.getElem_toArray, List.getElem_cons_zero, List.getElem_cons_succ, Act.put, List.setIfInBounds_toArray, List.set_cons_zero, List.set_cons_succ])
                      refine wpAnyH_take (i := 14) (v := ?_) rfl (by kernel_rfl) (by kernel_rfl) (by kernel_rfl) (fun _ _ _ h => h) (Or.inl ⟨by rfl, ?_⟩) (by assumption) ?_
                      rotate_left
                      · intro w hSw
                        (try dsimp only at hSw)
                        go_simp
                        (try with_reducible rfl)
                      (try simp only [List.getElem_toArray, List.getElem_cons_zero, List.getElem_cons_succ, Act.put, List.setIfInBounds_toArray, List.set_cons_zero, List.set_cons_succ])
                      refine wpAnyH_ready (rs := [8]) (by kernel_rfl) (by simp) ?_
                      refine AllReadyH.cons (o := _) rfl (fun Kc hKc => ?_) (AllReadyH.nil)
                      · refine step_append_at rfl _ _ 26 rfl pb 3 i0 (.int .i64 0) 1 8 Try.underlying26 hi0 iz0 iz1 iz2 rfl (by decide) ev P.rel.length (intV P.rel) rfl hP4.pv.rel ⟨g1, 0, none⟩ 1 1 [.int .i64 0] rfl rfl p1_4.news (by intro u hu; simp at hu; subst hu; rfl) (by unfold maxLen; omega) (by omega) hP4.sz ?_
                        intro v1 R5 o1 hg1 hat1
                        obtain ⟨qa1, qc1, rfl⟩ := kown_form o1
                        have hP5 := hP4.pe (by decide) (by decide) o1 hg1 hat1
                        have p2_5 := p2_4.ge hg1 hat1
                        clear p2_4
                        clear p1_4 o1 hg1 hat1 hP4
                        refine hKc.out _ _ (HS.out _ hP5.box hP5.vbx) (fun hHeld => ?_)
                        clear hKc Kc
                        (try simp only [List.getElem_toArray, List.getElem_cons_zero, List.getElem_cons_succ, Act.put, List.setIfInBounds_toArray, List.set_cons_zero, List.set_cons_succ])
                        refine wpAnyH_ready (rs := [13]) (by kernel_rfl) (by simp) ?_
                        refine AllReadyH.cons (o := _) rfl (fun Kc hKc => ?_) (AllReadyH.nil)
                        · refine step_append_at rfl _ _ 26 rfl pb 3 i0 (.int .i64 0) 1 8 Try.underlying26 hi0 iz0 iz1 iz2 rfl (by decide) bv P.b.length (intV P.b) rfl hP5.pv.b ⟨g2, 0, none⟩ 1 1 [.int .i64 rz] rfl rfl p2_5.news (by intro u hu; simp at hu; subst hu; rfl) (by unfold maxLen; omega) (by omega) hP5.sz ?_
                          intro v2 R6 o2 hg2 hat2
                          obtain ⟨qa2, qc2, rfl⟩ := kown_form o2
                          have hP6 := hP5.pb_ (by decide) (by decide) o2 hg2 hat2
                          clear p2_5 o2 hg2 hat2 hP5
                          refine hKc.out _ _ (HS.out _ hP6.box hP6.vbx) (fun hHeld => ?_)
                          clear hKc Kc
                          (try simp only [List.getElem_toArray, List.getElem_cons_zero, List.getElem_cons_succ, Act.put, List.setIfInBounds_toArray, List.set_cons_zero, List.set_cons_succ])
                          refine wpAnyH_done (by kernel_rfl) ?_ _
                          intro r
                          have b6 := hP6.box
                          have b7 : (R6.setCell ⟨pb, 0, none⟩ (.slice qa0 (P.rows.length + 1) qc0)).heap[pb]? = some (.cells #[.slice qa0 (P.rows.length + 1) qc0, ev, bv, cv] 32 (0, 0)) := by simpa using set_at (L := [rv, ev, bv, cv]) (k := 0) (v := .slice qa0 (P.rows.length + 1) qc0) b6
                          have b8 : ((R6.setCell ⟨pb, 0, none⟩ (.slice qa0 (P.rows.length + 1) qc0)).setCell ⟨pb, 1, none⟩ (.slice qa1 (P.rel.length + 1) qc1)).heap[pb]? = some (.cells #[.slice qa0 (P.rows.length + 1) qc0, .slice qa1 (P.rel.length + 1) qc1, bv, cv] 32 (0, 0)) := by simpa using set_at (L := [.slice qa0 (P.rows.length + 1) qc0, ev, bv, cv]) (k := 1) (v := .slice qa1 (P.rel.length + 1) qc1) b7
                          have b9 : (((R6.setCell ⟨pb, 0, none⟩ (.slice qa0 (P.rows.length + 1) qc0)).setCell ⟨pb, 1, none⟩ (.slice qa1 (P.rel.length + 1) qc1)).setCell ⟨pb, 2, none⟩ (.slice qa2 (P.b.length + 1) qc2)).heap[pb]? = some (.cells #[.slice qa0 (P.rows.length + 1) qc0, .slice qa1 (P.rel.length + 1) qc1, .slice qa2 (P.b.length + 1) qc2, cv] 32 (0, 0)) := by simpa using set_at (L := [.slice qa0 (P.rows.length + 1) qc0, .slice qa1 (P.rel.length + 1) qc1, bv, cv]) (k := 2) (v := .slice qa2 (P.b.length + 1) qc2) b8
                          have c60 := ibx b6 0 rv rfl
                          have f60 := free_at (L := [rv, ev, bv, cv]) b6 0
                          have c61 := ibx b6 1 ev rfl
                          have f61 := free_at (L := [rv, ev, bv, cv]) b6 1
                          have c62 := ibx b6 2 bv rfl
                          have f62 := free_at (L := [rv, ev, bv, cv]) b6 2
                          have h9 := ((hP6.pv.set (i := 0) b6 (by decide) (by decide) (.slice qa0 (P.rows.length + 1) qc0)).set (i := 1) b7 (by decide) (by decide) (.slice qa1 (P.rel.length + 1) qc1)).set (i := 2) b8 (by decide) (by decide) (.slice qa2 (P.b.length + 1) qc2)
                          have B9 : Below pb W5 (((R6.setCell ⟨pb, 0, none⟩ (.slice qa0 (P.rows.length + 1) qc0)).setCell ⟨pb, 1, none⟩ (.slice qa1 (P.rel.length + 1) qc1)).setCell ⟨pb, 2, none⟩ (.slice qa2 (P.b.length + 1) qc2)) := ((hP6.bel.setCell (p := ⟨pb, 0, none⟩) (Nat.le_refl _) _).setCell (p := ⟨pb, 1, none⟩) (Nat.le_refl _) _).setCell (p := ⟨pb, 2, none⟩) (Nat.le_refl _) _
                          have x9 : (((R6.setCell ⟨pb, 0, none⟩ (.slice qa0 (P.rows.length + 1) qc0)).setCell ⟨pb, 1, none⟩ (.slice qa1 (P.rel.length + 1) qc1)).setCell ⟨pb, 2, none⟩ (.slice qa2 (P.b.length + 1) qc2)).heap[w.heap.size + 1]? = some (.cells #[.slice none 0 0, .slice none 0 0, .slice none 0 0, .slice none 0 0] 32 (0, 0)) := by
                            rw [Below.heap_setCell _ _ _ _ HVP.out, Below.heap_setCell _ _ _ _ HVP.out, Below.heap_setCell _ _ _ _ HVP.out]
                            exact hP6.vbx
                          have s9 : pb ≤ (((R6.setCell ⟨pb, 0, none⟩ (.slice qa0 (P.rows.length + 1) qc0)).setCell ⟨pb, 1, none⟩ (.slice qa1 (P.rel.length + 1) qc1)).setCell ⟨pb, 2, none⟩ (.slice qa2 (P.b.length + 1) qc2)).heap.size := by simpa [World.setCell] using hP6.sz
                          clear hP6 b6 b7 b8 hHeld
                          refine wpAny_ready (rs := [15]) (by kernel_rfl) (by simp) ?_
                          refine AllReady.cons (o := _) rfl (fun Kc hKc => ?_) AllReady.nil
                          go_simp
                          refine hKc _ _ ?_
                          clear hKc Kc
                          (try simp only [List.getElem_toArray, List.getElem_cons_zero, List.getElem_cons_succ, Act.put, List.setIfInBounds_toArray, List.set_cons_zero, List.set_cons_succ])
                          refine wpAny_ready (rs := [16]) (by kernel_rfl) (by simp) ?_
                          refine AllReady.cons (o := _) rfl (fun Kc hKc => ?_) AllReady.nil
                          go_simp
                          refine hKc _ _ ?_
                          clear hKc Kc
                          (try simp only [List.getElem_toArray, List.getElem_cons_zero, List.getElem_cons_succ, Act.put, List.setIfInBounds_toArray, List.set_cons_zero, List.set_cons_succ])
                          refine wpAny_ready (rs := [17]) (by kernel_rfl) (by simp) ?_
                          refine AllReady.cons (o := _) rfl (fun Kc hKc => ?_) AllReady.nil
                          go_simp
                          refine hKc _ _ ?_
                          clear hKc Kc
                          (try simp only [List.getElem_toArray, List.getElem_cons_zero, List.getElem_cons_succ, Act.put, List.setIfInBounds_toArray, List.set_cons_zero, List.set_cons_succ])
                          refine wpAny_ready (rs := [18]) (by kernel_rfl) (by simp) ?_
                          refine AllReady.cons (o := _) rfl (fun Kc hKc => ?_) AllReady.nil
                          go_simp
                          refine hKc _ _ ?_
                          clear hKc Kc
                          (try simp only [List.getElem_toArray, List.getElem_cons_zero, List.getElem_cons_succ, Act.put, List.setIfInBounds_toArray, List.set_cons_zero, List.set_cons_succ])
                          refine wpAny_ready (rs := [19]) (by kernel_rfl) (by simp) ?_
                          refine AllReady.cons (o := _) rfl (fun Kc hKc => ?_) AllReady.nil
                          go_simp
                          refine hKc _ _ ?_
                          clear hKc Kc
                          (try simp only [List.getElem_toArray, List.getElem_cons_zero, List.getElem_cons_succ, Act.put, List.setIfInBounds_toArray, List.set_cons_zero, List.set_cons_succ])
                          refine wpAny_done (by kernel_rfl) ?_ _
                          refine NoPanic.normal ?_
                          clear c60 f60 c61 f61 c62 f62
                          generalize ((R6.setCell ⟨pb, 0, none⟩ (.slice qa0 (P.rows.length + 1) qc0)).setCell ⟨pb, 1, none⟩ (.slice qa1 (P.rel.length + 1) qc1)).setCell ⟨pb, 2, none⟩ (.slice qa2 (P.b.length + 1) qc2) = W9 at *
                          have HBX9 : Hid (Bx W9 W5 pb (P2 V net (k + 1))) := hid ⟨_, _, _, _, _, b9, by rw [HPS.out]; exact h9, B9, s9⟩
                          clear h9 b9 x9 B9 s9
                          go_wp2_with fail
                          go_roundw
                          case rel => exact ⟨k + 1, by omega, by go_num, HBX9⟩
                          case measure => simp [intOf]; omega
              · go_simp
                refine hKc.out _ _ (HS.out _ (hP0.alloc _).box (hP0.alloc _).vbx) (fun hHeld => ?_)
                clear hKc Kc
                (try simp only [List.getElem_toArray, List.getElem_cons_zero, List.getElem_cons_succ, Act.put, List.setIfInBounds_toArray, List.set_cons_zero, List.set_cons_succ])
                have hP1 := hP0.alloc (Obj.cells #[.int .i64 rz] 3)
                have p2_1 := Pd.new hP0 3 (.int .i64 rz)
                have io1 : IO (R0.alloc (Obj.cells #[.int .i64 rz] 3)) pb (Value.slice (some ⟨w2.heap.size, 0, none⟩) V.length V.length) LU := World.ownsRow.alloc io0 _
                clear io0
                clear hP0
                generalize R0.alloc (Obj.cells #[.int .i64 rz] 3) = R1 at *
                generalize R0.heap.size = g2 at *
                refine wpAnyH_ready (rs := [3, 7]) (by kernel_rfl) (by simp) ?_
                refine AllReadyH.cons (o := _) rfl (fun Kc hKc => ?_) (AllReadyH.cons (o := _) rfl (fun Kc hKc => ?_) (AllReadyH.nil))
                · go_simp
                  refine hKc.out _ _ (HS.out _ (hP1.alloc _).box (hP1.alloc _).vbx) (fun hHeld => ?_)
                  clear hKc Kc
                  (try simp only [List.getElem_toArray, List.getElem_cons_zero, List.getElem_cons_succ, Act.put, List.setIfInBounds_toArray, List.set_cons_zero, List.set_cons_succ])
                  have hP2 := hP1.alloc (Obj.cells #[(Value.slice (some ⟨w2.heap.size, 0, none⟩) V.length V.length)] 26)
                  have p0_2 := Pd.new hP1 26 ((Value.slice (some ⟨w2.heap.size, 0, none⟩) V.length V.length))
                  have p2_2 := p2_1.alloc (Obj.cells #[(Value.slice (some ⟨w2.heap.size, 0, none⟩) V.length V.length)] 26)
                  have io2 : IO (R1.alloc (Obj.cells #[(Value.slice (some ⟨w2.heap.size, 0, none⟩) V.length V.length)] 26)) pb (Value.slice (some ⟨w2.heap.size, 0, none⟩) V.length V.length) LU := World.ownsRow.alloc io1 _
                  clear io1
                  clear p2_1
                  clear hP1
                  generalize R1.alloc (Obj.cells #[(Value.slice (some ⟨w2.heap.size, 0, none⟩) V.length V.length)] 26) = R2 at *
                  generalize R1.heap.size = g0 at *
                  refine wpAnyH_ready (rs := [4, 7]) (by kernel_rfl) (by simp) ?_
                  refine AllReadyH.cons (o := _) rfl (fun Kc hKc => ?_) (AllReadyH.cons (o := _) rfl (fun Kc hKc => ?_) (AllReadyH.nil))
                  · refine step_append_at rfl _ _ 30 rfl pb 26 j0 (.slice none 0 0) 1 24 Try.underlying30 hj0 jz0 jz1 jz2 rfl (by decide) rv P.rows.length vs rfl hP2.pv.rows ⟨g0, 0, none⟩ 1 1 [(Value.slice (some ⟨w2.heap.size, 0, none⟩) V.length V.length)] rfl rfl p0_2.news (by intro u hu; simp at hu; subst hu; rfl) (by unfold maxLen; omega) (by omega) hP2.sz ?_
                    intro v0 R3 o0 hg0 hat0
                    obtain ⟨qa0, qc0, rfl⟩ := kown_form o0
                    have hP3 := hP2.pr (by decide) (by decide) (L := LU) io2 HD.out.1 HD.out.2.1 HD.out.2.2 o0 hg0
                    clear io2
                    have p2_3 := p2_2.gr hg0 hat0
                    clear p2_2
                    clear p0_2 o0 hg0 hat0 hP2
                    refine hKc.out _ _ (HS.out _ hP3.box hP3.vbx) (fun hHeld => ?_)
                    clear hKc Kc
                    (try simp only [List.getElem_toArray, List.getElem_cons_zero, List.getElem_cons_succ, Act.put, List.setIfInBounds_toArray, List.set_cons_zero, List.set_cons_succ])
                    refine wpAnyH_take (i := 14) (v := ?_) rfl (by kernel_rfl) (by kernel_rfl) (by kernel_rfl) (fun _ _ _ h => h) (Or.inl ⟨by rfl, ?_⟩) (by assumption) ?_
                    rotate_left
                    · intro w hSw
                      (try dsimp only at hSw)
                      go_simp
                      (try with_reducible rfl)
                    (try simp only [List.getElem_toArray, List.getElem_cons_zero, List.getElem_cons_succ, Act.put, List.setIfInBounds_toArray, List.set_cons_zero, List.set_cons_succ])
                    refine wpAnyH_ready (rs := [7]) (by kernel_rfl) (by simp) ?_
                    refine AllReadyH.cons (o := _) rfl (fun Kc hKc => ?_) (AllReadyH.nil)
                    · go_simp
                      refine hKc.out _ _ (HS.out _ (hP3.alloc _).box (hP3.alloc _).vbx) (fun hHeld => ?_)
                      clear hKc Kc
                      (try simp only [List.getElem_toArray, List.getElem_cons_zero, List.getElem_cons_succ, Act.put, List.setIfInBounds_toArray, List.set_cons_zero, List.set_cons_succ])
                      have hP4 := hP3.alloc (Obj.cells #[.int .i64 0] 3)
                      have p1_4 := Pd.new hP3 3 (.int .i64 0)
                      have p2_4 := p2_3.alloc (Obj.cells #[.int .i64 0] 3)
                      clear p2_3
                      clear hP3
                      generalize R3.alloc (Obj.cells #[.int .i64 0] 3) = R4 at *
                      generalize R3.heap.size = g1 at *
                      refine wpAnyH_ready (rs := [8]) (by kernel_rfl) (by simp) ?_
                      refine AllReadyH.cons (o := _) rfl (fun Kc hKc => ?_) (AllReadyH.nil)
                      · refine step_append_at rfl _ _ 26 rfl pb 3 i0 (.int .i64 0) 1 8 Try.underlying26 hi0 iz0 iz1 iz2 rfl (by decide) ev P.rel.length (intV P.rel) rfl hP4.pv.rel ⟨g1, 0, none⟩ 1 1 [.int .i64 0] rfl rfl p1_4.news (by intro u hu; simp at hu; subst hu; rfl) (by unfold maxLen; omega) (by omega) hP4.sz ?_
                        intro v1 R5 o1 hg1 hat1
                        obtain ⟨qa1, qc1, rfl⟩ := kown_form o1
                        have hP5 := hP4.pe (by decide) (by decide) o1 hg1 hat1
                        have p2_5 := p2_4.ge hg1 hat1
                        clear p2_4
                        clear p1_4 o1 hg1 hat1 hP4
                        refine hKc.out _ _ (HS.out _ hP5.box hP5.vbx) (fun hHeld => ?_)
                        clear hKc Kc
                        (try simp only [List.getElem_toArray, List.getElem_cons_zero, List.getElem_cons_succ, Act.put, List.setIfInBounds_toArray, List.set_cons_zero, List.set_cons_succ])
                        refine wpAnyH_ready (rs := [13]) (by kernel_rfl) (by simp) ?_
                        refine AllReadyH.cons (o := _) rfl (fun Kc hKc => ?_) (AllReadyH.nil)
                        · refine step_append_at rfl _ _ 26 rfl pb 3 i0 (.int .i64 0) 1 8 Try.underlying26 hi0 iz0 iz1 iz2 rfl (by decide) bv P.b.length (intV P.b) rfl hP5.pv.b ⟨g2, 0, none⟩ 1 1 [.int .i64 rz] rfl rfl p2_5.news (by intro u hu; simp at hu; subst hu; rfl) (by unfold maxLen; omega) (by omega) hP5.sz ?_
                          intro v2 R6 o2 hg2 hat2
                          obtain ⟨qa2, qc2, rfl⟩ := kown_form o2
                          have hP6 := hP5.pb_ (by decide) (by decide) o2 hg2 hat2
                          clear p2_5 o2 hg2 hat2 hP5
                          refine hKc.out _ _ (HS.out _ hP6.box hP6.vbx) (fun hHeld => ?_)
                          clear hKc Kc
                          (try simp only [List.getElem_toArray, List.getElem_cons_zero, List.getElem_cons_succ, Act.put, List.setIfInBounds_toArray, List.set_cons_zero, List.set_cons_succ])
                          refine wpAnyH_done (by kernel_rfl) ?_ _
                          intro r
                          have b6 := hP6.box
                          have b7 : (R6.setCell ⟨pb, 0, none⟩ (.slice qa0 (P.rows.length + 1) qc0)).heap[pb]? = some (.cells #[.slice qa0 (P.rows.length + 1) qc0, ev, bv, cv] 32 (0, 0)) := by simpa using set_at (L := [rv, ev, bv, cv]) (k := 0) (v := .slice qa0 (P.rows.length + 1) qc0) b6
                          have b8 : ((R6.setCell ⟨pb, 0, none⟩ (.slice qa0 (P.rows.length + 1) qc0)).setCell ⟨pb, 1, none⟩ (.slice qa1 (P.rel.length + 1) qc1)).heap[pb]? = some (.cells #[.slice qa0 (P.rows.length + 1) qc0, .slice qa1 (P.rel.length + 1) qc1, bv, cv] 32 (0, 0)) := by simpa using set_at (L := [.slice qa0 (P.rows.length + 1) qc0, ev, bv, cv]) (k := 1) (v := .slice qa1 (P.rel.length + 1) qc1) b7
                          have b9 : (((R6.setCell ⟨pb, 0, none⟩ (.slice qa0 (P.rows.length + 1) qc0)).setCell ⟨pb, 1, none⟩ (.slice qa1 (P.rel.length + 1) qc1)).setCell ⟨pb, 2, none⟩ (.slice qa2 (P.b.length + 1) qc2)).heap[pb]? = some (.cells #[.slice qa0 (P.rows.length + 1) qc0, .slice qa1 (P.rel.length + 1) qc1, .slice qa2 (P.b.length + 1) qc2, cv] 32 (0, 0)) := by simpa using set_at (L := [.slice qa0 (P.rows.length + 1) qc0, .slice qa1 (P.rel.length + 1) qc1, bv, cv]) (k := 2) (v := .slice qa2 (P.b.length + 1) qc2) b8
                          have c60 := ibx b6 0 rv rfl
                          have f60 := free_at (L := [rv, ev, bv, cv]) b6 0
                          have c61 := ibx b6 1 ev rfl
                          have f61 := free_at (L := [rv, ev, bv, cv]) b6 1
                          have c62 := ibx b6 2 bv rfl
                          have f62 := free_at (L := [rv, ev, bv, cv]) b6 2
                          have h9 := ((hP6.pv.set (i := 0) b6 (by decide) (by decide) (.slice qa0 (P.rows.length + 1) qc0)).set (i := 1) b7 (by decide) (by decide) (.slice qa1 (P.rel.length + 1) qc1)).set (i := 2) b8 (by decide) (by decide) (.slice qa2 (P.b.length + 1) qc2)
                          have B9 : Below pb W5 (((R6.setCell ⟨pb, 0, none⟩ (.slice qa0 (P.rows.length + 1) qc0)).setCell ⟨pb, 1, none⟩ (.slice qa1 (P.rel.length + 1) qc1)).setCell ⟨pb, 2, none⟩ (.slice qa2 (P.b.length + 1) qc2)) := ((hP6.bel.setCell (p := ⟨pb, 0, none⟩) (Nat.le_refl _) _).setCell (p := ⟨pb, 1, none⟩) (Nat.le_refl _) _).setCell (p := ⟨pb, 2, none⟩) (Nat.le_refl _) _
                          have x9 : (((R6.setCell ⟨pb, 0, none⟩ (.slice qa0 (P.rows.length + 1) qc0)).setCell ⟨pb, 1, none⟩ (.slice qa1 (P.rel.length + 1) qc1)).setCell ⟨pb, 2, none⟩ (.slice qa2 (P.b.length + 1) qc2)).heap[w.heap.size + 1]? = some (.cells #[.slice none 0 0, .slice none 0 0, .slice none 0 0, .slice none 0 0] 32 (0, 0)) := by
                            rw [Below.heap_setCell _ _ _ _ HVP.out, Below.heap_setCell _ _ _ _ HVP.out, Below.heap_setCell _ _ _ _ HVP.out]
                            exact hP6.vbx
                          have s9 : pb ≤ (((R6.setCell ⟨pb, 0, none⟩ (.slice qa0 (P.rows.length + 1) qc0)).setCell ⟨pb, 1, none⟩ (.slice qa1 (P.rel.length + 1) qc1)).setCell ⟨pb, 2, none⟩ (.slice qa2 (P.b.length + 1) qc2)).heap.size := by simpa [World.setCell] using hP6.sz
                          clear hP6 b6 b7 b8 hHeld
                          refine wpAny_ready (rs := [15]) (by kernel_rfl) (by simp) ?_
                          refine AllReady.cons (o := _) rfl (fun Kc hKc => ?_) AllReady.nil
                          go_simp
                          refine hKc _ _ ?_
                          clear hKc Kc
                          (try simp only [List.getElem_toArray, List.getElem_cons_zero, List.getElem_cons_succ, Act.put, List.setIfInBounds_toArray, List.set_cons_zero, List.set_cons_succ])
                          refine wpAny_ready (rs := [16]) (by kernel_rfl) (by simp) ?_
                          refine AllReady.cons (o := _) rfl (fun Kc hKc => ?_) AllReady.nil
                          go_simp
                          refine hKc _ _ ?_
                          clear hKc Kc
                          (try simp only [List.getElem_toArray, List.getElem_cons_zero, List.getElem_cons_succ, Act.put, List.setIfInBounds_toArray, List.set_cons_zero, List.set_cons_succ])
                          refine wpAny_ready (rs := [17]) (by kernel_rfl) (by simp) ?_
                          refine AllReady.cons (o := _) rfl (fun Kc hKc => ?_) AllReady.nil
                          go_simp
                          refine hKc _ _ ?_
                          clear hKc Kc
                          (try simp only [List.getElem_toArray, List.getElem_cons_zero, List.getElem_cons_succ, Act.put, List.setIfInBounds_toArray, List.set_cons_zero, List.set_cons_succ])
                          refine wpAny_ready (rs := [18]) (by kernel_rfl) (by simp) ?_
                          refine AllReady.cons (o := _) rfl (fun Kc hKc => ?_) AllReady.nil
                          go_simp
                          refine hKc _ _ ?_
                          clear hKc Kc
                          (try simp only [List.getElem_toArray, List.getElem_cons_zero, List.getElem_cons_succ, Act.put, List.setIfInBounds_toArray, List.set_cons_zero, List.set_cons_succ])
                          refine wpAny_ready (rs := [19]) (by kernel_rfl) (by simp) ?_
                          refine AllReady.cons (o := _) rfl (fun Kc hKc => ?_) AllReady.nil
                          go_simp
                          refine hKc _ _ ?_
                          clear hKc Kc
                          (try simp only [List.getElem_toArray, List.getElem_cons_zero, List.getElem_cons_succ, Act.put, List.setIfInBounds_toArray, List.set_cons_zero, List.set_cons_succ])
                          refine wpAny_done (by kernel_rfl) ?_ _
                          refine NoPanic.normal ?_
                          clear c60 f60 c61 f61 c62 f62
                          generalize ((R6.setCell ⟨pb, 0, none⟩ (.slice qa0 (P.rows.length + 1) qc0)).setCell ⟨pb, 1, none⟩ (.slice qa1 (P.rel.length + 1) qc1)).setCell ⟨pb, 2, none⟩ (.slice qa2 (P.b.length + 1) qc2) = W9 at *
                          have HBX9 : Hid (Bx W9 W5 pb (P2 V net (k + 1))) := hid ⟨_, _, _, _, _, b9, by rw [HPS.out]; exact h9, B9, s9⟩
                          clear h9 b9 x9 B9 s9
                          go_wp2_with fail
                          go_roundw
                          case rel => exact ⟨k + 1, by omega, by go_num, HBX9⟩
                          case measure => simp [intOf]; omega
                  · go_simp
                    refine hKc.out _ _ (HS.out _ (hP2.alloc _).box (hP2.alloc _).vbx) (fun hHeld => ?_)
                    clear hKc Kc
                    (try simp only [List.getElem_toArray, List.getElem_cons_zero, List.getElem_cons_succ, Act.put, List.setIfInBounds_toArray, List.set_cons_zero, List.set_cons_succ])
                    have hP3 := hP2.alloc (Obj.cells #[.int .i64 0] 3)
                    have p1_3 := Pd.new hP2 3 (.int .i64 0)
                    have p0_3 := p0_2.alloc (Obj.cells #[.int .i64 0] 3)
                    have p2_3 := p2_2.alloc (Obj.cells #[.int .i64 0] 3)
                    have io3 : IO (R2.alloc (Obj.cells #[.int .i64 0] 3)) pb (Value.slice (some ⟨w2.heap.size, 0, none⟩) V.length V.length) LU := World.ownsRow.alloc io2 _
                    clear io2
                    clear p0_2
                    clear p2_2
                    clear hP2
                    generalize R2.alloc (Obj.cells #[.int .i64 0] 3) = R3 at *
                    generalize R2.heap.size = g1 at *
                    refine wpAnyH_ready (rs := [4]) (by kernel_rfl) (by simp) ?_
                    refine AllReadyH.cons (o := _) rfl (fun Kc hKc => ?_) (AllReadyH.nil)
                    · refine step_append_at rfl _ _ 30 rfl pb 26 j0 (.slice none 0 0) 1 24 Try.underlying30 hj0 jz0 jz1 jz2 rfl (by decide) rv P.rows.length vs rfl hP3.pv.rows ⟨g0, 0, none⟩ 1 1 [(Value.slice (some ⟨w2.heap.size, 0, none⟩) V.length V.length)] rfl rfl p0_3.news (by intro u hu; simp at hu; subst hu; rfl) (by unfold maxLen; omega) (by omega) hP3.sz ?_
                      intro v0 R4 o0 hg0 hat0
                      obtain ⟨qa0, qc0, rfl⟩ := kown_form o0
                      have hP4 := hP3.pr (by decide) (by decide) (L := LU) io3 HD.out.1 HD.out.2.1 HD.out.2.2 o0 hg0
                      clear io3
                      have p1_4 := p1_3.gr hg0 hat0
                      clear p1_3
                      have p2_4 := p2_3.gr hg0 hat0
                      clear p2_3
                      clear p0_3 o0 hg0 hat0 hP3
                      refine hKc.out _ _ (HS.out _ hP4.box hP4.vbx) (fun hHeld => ?_)
                      clear hKc Kc
                      (try simp only [List.getElem_toArray, List.getElem_cons_zero, List.getElem_cons_succ, Act.put, List.setIfInBounds_toArray, List.set_cons_zero, List.set_cons_succ])
                      refine wpAnyH_take (i := 14) (v := ?_) rfl (by kernel_rfl) (by kernel_rfl) (by kernel_rfl) (fun _ _ _ h => h) (Or.inl ⟨by rfl, ?_⟩) (by assumption) ?_
                      rotate_left
                      · intro w hSw
                        (try dsimp only at hSw)
                        go_simp
                        (try with_reducible rfl)
                      (try simp only [List.getElem_toArray, List.getElem_cons_zero, List.getElem_cons_succ, Act.put, List.setIfInBounds_toArray, List.set_cons_zero, List.set_cons_succ])
                      refine wpAnyH_ready (rs := [8]) (by kernel_rfl) (by simp) ?_
                      refine AllReadyH.cons (o := _) rfl (fun Kc hKc => ?_) (AllReadyH.nil)
                      · refine step_append_at rfl _ _ 26 rfl pb 3 i0 (.int .i64 0) 1 8 Try.underlying26 hi0 iz0 iz1 iz2 rfl (by decide) ev P.rel.length (intV P.rel) rfl hP4.pv.rel ⟨g1, 0, none⟩ 1 1 [.int .i64 0] rfl rfl p1_4.news (by intro u hu; simp at hu; subst hu; rfl) (by unfold maxLen; omega) (by omega) hP4.sz ?_
                        intro v1 R5 o1 hg1 hat1
                        obtain ⟨qa1, qc1, rfl⟩ := kown_form o1
                        have hP5 := hP4.pe (by decide) (by decide) o1 hg1 hat1
                        have p2_5 := p2_4.ge hg1 hat1
                        clear p2_4
                        clear p1_4 o1 hg1 hat1 hP4
                        refine hKc.out _ _ (HS.out _ hP5.box hP5.vbx) (fun hHeld => ?_)
                        clear hKc Kc
                        (try simp only [List.getElem_toArray, List.getElem_cons_zero, List.getElem_cons_succ, Act.put, List.setIfInBounds_toArray, List.set_cons_zero, List.set_cons_succ])
                        refine wpAnyH_ready (rs := [13]) (by kernel_rfl) (by simp) ?_
                        refine AllReadyH.cons (o := _) rfl (fun Kc hKc => ?_) (AllReadyH.nil)
                        · refine step_append_at rfl _ _ 26 rfl pb 3 i0 (.int .i64 0) 1 8 Try.underlying26 hi0 iz0 iz1 iz2 rfl (by decide) bv P.b.length (intV P.b) rfl hP5.pv.b ⟨g2, 0, none⟩ 1 1 [.int .i64 rz] rfl rfl p2_5.news (by intro u hu; simp at hu; subst hu; rfl) (by unfold maxLen; omega) (by omega) hP5.sz ?_
                          intro v2 R6 o2 hg2 hat2
                          obtain ⟨qa2, qc2, rfl⟩ := kown_form o2
                          have hP6 := hP5.pb_ (by decide) (by decide) o2 hg2 hat2
                          clear p2_5 o2 hg2 hat2 hP5
                          refine hKc.out _ _ (HS.out _ hP6.box hP6.vbx) (fun hHeld => ?_)
                          clear hKc Kc
                          (try simp only [List.getElem_toArray, List.getElem_cons_zero, List.getElem_cons_succ, Act.put, List.setIfInBounds_toArray, List.set_cons_zero, List.set_cons_succ])
                          refine wpAnyH_done (by kernel_rfl) ?_ _
                          intro r
                          have b6 := hP6.box
                          have b7 : (R6.setCell ⟨pb, 0, none⟩ (.slice qa0 (P.rows.length + 1) qc0)).heap[pb]? = some (.cells #[.slice qa0 (P.rows.length + 1) qc0, ev, bv, cv] 32 (0, 0)) := by simpa using set_at (L := [rv, ev, bv, cv]) (k := 0) (v := .slice qa0 (P.rows.length + 1) qc0) b6
                          have b8 : ((R6.setCell ⟨pb, 0, none⟩ (.slice qa0 (P.rows.length + 1) qc0)).setCell ⟨pb, 1, none⟩ (.slice qa1 (P.rel.length + 1) qc1)).heap[pb]? = some (.cells #[.slice qa0 (P.rows.length + 1) qc0, .slice qa1 (P.rel.length + 1) qc1, bv, cv] 32 (0, 0)) := by simpa using set_at (L := [.slice qa0 (P.rows.length + 1) qc0, ev, bv, cv]) (k := 1) (v := .slice qa1 (P.rel.length + 1) qc1) b7
                          have b9 : (((R6.setCell ⟨pb, 0, none⟩ (.slice qa0 (P.rows.length + 1) qc0)).setCell ⟨pb, 1, none⟩ (.slice qa1 (P.rel.length + 1) qc1)).setCell ⟨pb, 2, none⟩ (.slice qa2 (P.b.length + 1) qc2)).heap[pb]? = some (.cells #[.slice qa0 (P.rows.length + 1) qc0, .slice qa1 (P.rel.length + 1) qc1, .slice qa2 (P.b.length + 1) qc2, cv] 32 (0, 0)) := by simpa using set_at (L := [.slice qa0 (P.rows.length + 1) qc0, .slice qa1 (P.rel.length + 1) qc1, bv, cv]) (k := 2) (v := .slice qa2 (P.b.length + 1) qc2) b8
                          have c60 := ibx b6 0 rv rfl
                          have f60 := free_at (L := [rv, ev, bv, cv]) b6 0
                          have c61 := ibx b6 1 ev rfl
                          have f61 := free_at (L := [rv, ev, bv, cv]) b6 1
                          have c62 := ibx b6 2 bv rfl
                          have f62 := free_at (L := [rv, ev, bv, cv]) b6 2
                          have h9 := ((hP6.pv.set (i := 0) b6 (by decide) (by decide) (.slice qa0 (P.rows.length + 1) qc0)).set (i := 1) b7 (by decide) (by decide) (.slice qa1 (P.rel.length + 1) qc1)).set (i := 2) b8 (by decide) (by decide) (.slice qa2 (P.b.length + 1) qc2)
                          have B9 : Below pb W5 (((R6.setCell ⟨pb, 0, none⟩ (.slice qa0 (P.rows.length + 1) qc0)).setCell ⟨pb, 1, none⟩ (.slice qa1 (P.rel.length + 1) qc1)).setCell ⟨pb, 2, none⟩ (.slice qa2 (P.b.length + 1) qc2)) := ((hP6.bel.setCell (p := ⟨pb, 0, none⟩) (Nat.le_refl _) _).setCell (p := ⟨pb, 1, none⟩) (Nat.le_refl _) _).setCell (p := ⟨pb, 2, none⟩) (Nat.le_refl _) _
                          have x9 : (((R6.setCell ⟨pb, 0, none⟩ (.slice qa0 (P.rows.length + 1) qc0)).setCell ⟨pb, 1, none⟩ (.slice qa1 (P.rel.length + 1) qc1)).setCell ⟨pb, 2, none⟩ (.slice qa2 (P.b.length + 1) qc2)).heap[w.heap.size + 1]? = some (.cells #[.slice none 0 0, .slice none 0 0, .slice none 0 0, .slice none 0 0] 32 (0, 0)) := by
                            rw [Below.heap_setCell _ _ _ _ HVP.out, Below.heap_setCell _ _ _ _ HVP.out, Below.heap_setCell _ _ _ _ HVP.out]
                            exact hP6.vbx
                          have s9 : pb ≤ (((R6.setCell ⟨pb, 0, none⟩ (.slice qa0 (P.rows.length + 1) qc0)).setCell ⟨pb, 1, none⟩ (.slice qa1 (P.rel.length + 1) qc1)).setCell ⟨pb, 2, none⟩ (.slice qa2 (P.b.length + 1) qc2)).heap.size := by simpa [World.setCell] using hP6.sz
                          clear hP6 b6 b7 b8 hHeld
                          refine wpAny_ready (rs := [15]) (by kernel_rfl) (by simp) ?_
                          refine AllReady.cons (o := _) rfl (fun Kc hKc => ?_) AllReady.nil
                          go_simp
                          refine hKc _ _ ?_
                          clear hKc Kc
                          (try simp only [List.getElem_toArray, List.getElem_cons_zero, List.getElem_cons_succ, Act.put, List.setIfInBounds_toArray, List.set_cons_zero, List.set_cons_succ])
                          refine wpAny_ready (rs := [16]) (by kernel_rfl) (by simp) ?_
                          refine AllReady.cons (o := _) rfl (fun Kc hKc => ?_) AllReady.nil
                          go_simp
                          refine hKc _ _ ?_
                          clear hKc Kc
                          (try simp only [List.getElem_toArray, List.getElem_cons_zero, List.getElem_cons_succ, Act.put, List.setIfInBounds_toArray, List.set_cons_zero, List.set_cons_succ])
                          refine wpAny_ready (rs := [17]) (by kernel_rfl) (by simp) ?_
                          refine AllReady.cons (o := _) rfl (fun Kc hKc => ?_) AllReady.nil
                          go_simp
                          refine hKc _ _ ?_
                          clear hKc Kc
                          (try simp only [List.getElem_toArray, List.getElem_cons_zero, List.getElem_cons_succ, Act.put, List.setIfInBounds_toArray, List.set_cons_zero, List.set_cons_succ])
                          refine wpAny_ready (rs := [18]) (by kernel_rfl) (by simp) ?_
                          refine AllReady.cons (o := _) rfl (fun Kc hKc => ?_) AllReady.nil
                          go_simp
                          refine hKc _ _ ?_
                          clear hKc Kc
                          (try simp only [List.getElem_toArray, List.getElem_cons_zero, List.getElem_cons_succ, Act.put, List.setIfInBounds_toArray, List.set_cons_zero, List.set_cons_succ])
                          refine wpAny_ready (rs := [19]) (by kernel_rfl) (by simp) ?_
                          refine AllReady.cons (o := _) rfl (fun Kc hKc => ?_) AllReady.nil
                          go_simp
                          refine hKc _ _ ?_
                          clear hKc Kc
                          (try simp only [List.getElem_toArray, List.getElem_cons_zero, List.getElem_cons_succ, Act.put, List.setIfInBounds_toArray, List.set_cons_zero, List.set_cons_succ])
                          refine wpAny_done (by kernel_rfl) ?_ _
                          refine NoPanic.normal ?_
                          clear c60 f60 c61 f61 c62 f62
                          generalize ((R6.setCell ⟨pb, 0, none⟩ (.slice qa0 (P.rows.length + 1) qc0)).setCell ⟨pb, 1, none⟩ (.slice qa1 (P.rel.length + 1) qc1)).setCell ⟨pb, 2, none⟩ (.slice qa2 (P.b.length + 1) qc2) = W9 at *
                          have HBX9 : Hid (Bx W9 W5 pb (P2 V net (k + 1))) := hid ⟨_, _, _, _, _, b9, by rw [HPS.out]; exact h9, B9, s9⟩
                          clear h9 b9 x9 B9 s9
                          go_wp2_with fail
                          go_roundw
                          case rel => exact ⟨k + 1, by omega, by go_num, HBX9⟩
                          case measure => simp [intOf]; omega
                · go_simp
                  refine hKc.out _ _ (HS.out _ (hP1.alloc _).box (hP1.alloc _).vbx) (fun hHeld => ?_)
                  clear hKc Kc
                  (try simp only [List.getElem_toArray, List.getElem_cons_zero, List.getElem_cons_succ, Act.put, List.setIfInBounds_toArray, List.set_cons_zero, List.set_cons_succ])
                  have hP2 := hP1.alloc (Obj.cells #[.int .i64 0] 3)
                  have p1_2 := Pd.new hP1 3 (.int .i64 0)
                  have p2_2 := p2_1.alloc (Obj.cells #[.int .i64 0] 3)
                  have io2 : IO (R1.alloc (Obj.cells #[.int .i64 0] 3)) pb (Value.slice (some ⟨w2.heap.size, 0, none⟩) V.length V.length) LU := World.ownsRow.alloc io1 _
                  clear io1
                  clear p2_1
                  clear hP1
                  generalize R1.alloc (Obj.cells #[.int .i64 0] 3) = R2 at *
                  generalize R1.heap.size = g1 at *
                  refine wpAnyH_ready (rs := [3]) (by kernel_rfl) (by simp) ?_
                  refine AllReadyH.cons (o := _) rfl (fun Kc hKc => ?_) (AllReadyH.nil)
                  · go_simp
                    refine hKc.out _ _ (HS.out _ (hP2.alloc _).box (hP2.alloc _).vbx) (fun hHeld => ?_)
                    clear hKc Kc
                    (try simp only [List.getElem_toArray, List.getElem_cons_zero, List.getElem_cons_succ, Act.put, List.setIfInBounds_toArray, List.set_cons_zero, List.set_cons_succ])
                    have hP3 := hP2.alloc (Obj.cells #[(Value.slice (some ⟨w2.heap.size, 0, none⟩) V.length V.length)] 26)
                    have p0_3 := Pd.new hP2 26 ((Value.slice (some ⟨w2.heap.size, 0, none⟩) V.length V.length))
                    have p1_3 := p1_2.alloc (Obj.cells #[(Value.slice (some ⟨w2.heap.size, 0, none⟩) V.length V.length)] 26)
                    have p2_3 := p2_2.alloc (Obj.cells #[(Value.slice (some ⟨w2.heap.size, 0, none⟩) V.length V.length)] 26)
                    have io3 : IO (R2.alloc (Obj.cells #[(Value.slice (some ⟨w2.heap.size, 0, none⟩) V.length V.length)] 26)) pb (Value.slice (some ⟨w2.heap.size, 0, none⟩) V.length V.length) LU := World.ownsRow.alloc io2 _
                    clear io2
                    clear p1_2
                    clear p2_2
                    clear hP2
                    generalize R2.alloc (Obj.cells #[(Value.slice (some ⟨w2.heap.size, 0, none⟩) V.length V.length)] 26) = R3 at *
                    generalize R2.heap.size = g0 at *
                    refine wpAnyH_ready (rs := [4]) (by kernel_rfl) (by simp) ?_
                    refine AllReadyH.cons (o := _) rfl (fun Kc hKc => ?_) (AllReadyH.nil)
                    · refine step_append_at rfl _ _ 30 rfl pb 26 j0 (.slice none 0 0) 1 24 Try.underlying30 hj0 jz0 jz1 jz2 rfl (by decide) rv P.rows.length vs rfl hP3.pv.rows ⟨g0, 0, none⟩ 1 1 [(Value.slice (some ⟨w2.heap.size, 0, none⟩) V.length V.length)] rfl rfl p0_3.news (by intro u hu; simp at hu; subst hu; rfl) (by unfold maxLen; omega) (by omega) hP3.sz ?_
                      intro v0 R4 o0 hg0 hat0
                      obtain ⟨qa0, qc0, rfl⟩ := kown_form o0
                      have hP4 := hP3.pr (by decide) (by decide) (L := LU) io3 HD.out.1 HD.out.2.1 HD.out.2.2 o0 hg0
                      clear io3
                      have p1_4 := p1_3.gr hg0 hat0
                      clear p1_3
                      have p2_4 := p2_3.gr hg0 hat0
                      clear p2_3
                      clear p0_3 o0 hg0 hat0 hP3
                      refine hKc.out _ _ (HS.out _ hP4.box hP4.vbx) (fun hHeld => ?_)
                      clear hKc Kc
                      (try simp only [List.getElem_toArray, List.getElem_cons_zero, List.getElem_cons_succ, Act.put, List.setIfInBounds_toArray, List.set_cons_zero, List.set_cons_succ])
                      refine wpAnyH_take (i := 14) (v := ?_) rfl (by kernel_rfl) (by kernel_rfl) (by kernel_rfl) (fun _ _ _ h => h) (Or.inl ⟨by rfl, ?_⟩) (by assumption) ?_
                      rotate_left
                      · intro w hSw
                        (try dsimp only at hSw)
                        go_simp
                        (try with_reducible rfl)
                      (try simp only [List.getElem_toArray, List.getElem_cons_zero, List.getElem_cons_succ, Act.put, List.setIfInBounds_toArray, List.set_cons_zero, List.set_cons_succ])
                      refine wpAnyH_ready (rs := [8]) (by kernel_rfl) (by simp) ?_
                      refine AllReadyH.cons (o := _) rfl (fun Kc hKc => ?_) (AllReadyH.nil)
                      · refine step_append_at rfl _ _ 26 rfl pb 3 i0 (.int .i64 0) 1 8 Try.underlying26 hi0 iz0 iz1 iz2 rfl (by decide) ev P.rel.length (intV P.rel) rfl hP4.pv.rel ⟨g1, 0, none⟩ 1 1 [.int .i64 0] rfl rfl p1_4.news (by intro u hu; simp at hu; subst hu; rfl) (by unfold maxLen; omega) (by omega) hP4.sz ?_
                        intro v1 R5 o1 hg1 hat1
                        obtain ⟨qa1, qc1, rfl⟩ := kown_form o1
                        have hP5 := hP4.pe (by decide) (by decide) o1 hg1 hat1
                        have p2_5 := p2_4.ge hg1 hat1
                        clear p2_4
                        clear p1_4 o1 hg1 hat1 hP4
                        refine hKc.out _ _ (HS.out _ hP5.box hP5.vbx) (fun hHeld => ?_)
                        clear hKc Kc
                        (try simp only [List.getElem_toArray, List.getElem_cons_zero, List.getElem_cons_succ, Act.put, List.setIfInBounds_toArray, List.set_cons_zero, List.set_cons_succ])
                        refine wpAnyH_ready (rs := [13]) (by kernel_rfl) (by simp) ?_
                        refine AllReadyH.cons (o := _) rfl (fun Kc hKc => ?_) (AllReadyH.nil)
                        · refine step_append_at rfl _ _ 26 rfl pb 3 i0 (.int .i64 0) 1 8 Try.underlying26 hi0 iz0 iz1 iz2 rfl (by decide) bv P.b.length (intV P.b) rfl hP5.pv.b ⟨g2, 0, none⟩ 1 1 [.int .i64 rz] rfl rfl p2_5.news (by intro u hu; simp at hu; subst hu; rfl) (by unfold maxLen; omega) (by omega) hP5.sz ?_
                          intro v2 R6 o2 hg2 hat2
                          obtain ⟨qa2, qc2, rfl⟩ := kown_form o2
                          have hP6 := hP5.pb_ (by decide) (by decide) o2 hg2 hat2
                          clear p2_5 o2 hg2 hat2 hP5
                          refine hKc.out _ _ (HS.out _ hP6.box hP6.vbx) (fun hHeld => ?_)
                          clear hKc Kc
                          (try simp only [List.getElem_toArray, List.getElem_cons_zero, List.getElem_cons_succ, Act.put, List.setIfInBounds_toArray, List.set_cons_zero, List.set_cons_succ])
                          refine wpAnyH_done (by kernel_rfl) ?_ _
                          intro r
                          have b6 := hP6.box
                          have b7 : (R6.setCell ⟨pb, 0, none⟩ (.slice qa0 (P.rows.length + 1) qc0)).heap[pb]? = some (.cells #[.slice qa0 (P.rows.length + 1) qc0, ev, bv, cv] 32 (0, 0)) := by simpa using set_at (L := [rv, ev, bv, cv]) (k := 0) (v := .slice qa0 (P.rows.length + 1) qc0) b6
                          have b8 : ((R6.setCell ⟨pb, 0, none⟩ (.slice qa0 (P.rows.length + 1) qc0)).setCell ⟨pb, 1, none⟩ (.slice qa1 (P.rel.length + 1) qc1)).heap[pb]? = some (.cells #[.slice qa0 (P.rows.length + 1) qc0, .slice qa1 (P.rel.length + 1) qc1, bv, cv] 32 (0, 0)) := by simpa using set_at (L := [.slice qa0 (P.rows.length + 1) qc0, ev, bv, cv]) (k := 1) (v := .slice qa1 (P.rel.length + 1) qc1) b7
                          have b9 : (((R6.setCell ⟨pb, 0, none⟩ (.slice qa0 (P.rows.length + 1) qc0)).setCell ⟨pb, 1, none⟩ (.slice qa1 (P.rel.length + 1) qc1)).setCell ⟨pb, 2, none⟩ (.slice qa2 (P.b.length + 1) qc2)).heap[pb]? = some (.cells #[.slice qa0 (P.rows.length + 1) qc0, .slice qa1 (P.rel.length + 1) qc1, .slice qa2 (P.b.length + 1) qc2, cv] 32 (0, 0)) := by simpa using set_at (L := [.slice qa0 (P.rows.length + 1) qc0, .slice qa1 (P.rel.length + 1) qc1, bv, cv]) (k := 2) (v := .slice qa2 (P.b.length + 1) qc2) b8
                          have c60 := ibx b6 0 rv rfl
                          have f60 := free_at (L := [rv, ev, bv, cv]) b6 0
                          have c61 := ibx b6 1 ev rfl
                          have f61 := free_at (L := [rv, ev, bv, cv]) b6 1
                          have c62 := ibx b6 2 bv rfl
                          have f62 := free_at (L := [rv, ev, bv, cv]) b6 2
                          have h9 := ((hP6.pv.set (i := 0) b6 (by decide) (by decide) (.slice qa0 (P.rows.length + 1) qc0)).set (i := 1) b7 (by decide) (by decide) (.slice qa1 (P.rel.length + 1) qc1)).set (i := 2) b8 (by decide) (by decide) (.slice qa2 (P.b.length + 1) qc2)
                          have B9 : Below pb W5 (((R6.setCell ⟨pb, 0, none⟩ (.slice qa0 (P.rows.length + 1) qc0)).setCell ⟨pb, 1, none⟩ (.slice qa1 (P.rel.length + 1) qc1)).setCell ⟨pb, 2, none⟩ (.slice qa2 (P.b.length + 1) qc2)) := ((hP6.bel.setCell (p := ⟨pb, 0, none⟩) (Nat.le_refl _) _).setCell (p := ⟨pb, 1, none⟩) (Nat.le_refl _) _).setCell (p := ⟨pb, 2, none⟩) (Nat.le_refl _) _
                          have x9 : (((R6.setCell ⟨pb, 0, none⟩ (.slice qa0 (P.rows.length + 1) qc0)).setCell ⟨pb, 1, none⟩ (.slice qa1 (P.rel.length + 1) qc1)).setCell ⟨pb, 2, none⟩ (.slice qa2 (P.b.length + 1) qc2)).heap[w.heap.size + 1]? = some (.cells #[.slice none 0 0, .slice none 0 0, .slice none 0 0, .slice none 0 0] 32 (0, 0)) := by
                            rw [Below.heap_setCell _ _ _ _ HVP.out, Below.heap_setCell _ _ _ _ HVP.out, Below.heap_setCell _ _ _ _ HVP.out]
                            exact hP6.vbx
                          have s9 : pb ≤ (((R6.setCell ⟨pb, 0, none⟩ (.slice qa0 (P.rows.length + 1) qc0)).setCell ⟨pb, 1, none⟩ (.slice qa1 (P.rel.length + 1) qc1)).setCell ⟨pb, 2, none⟩ (.slice qa2 (P.b.length + 1) qc2)).heap.size := by simpa [World.setCell] using hP6.sz
                          clear hP6 b6 b7 b8 hHeld
                          refine wpAny_ready (rs := [15]) (by kernel_rfl) (by simp) ?_
                          refine AllReady.cons (o := _) rfl (fun Kc hKc => ?_) AllReady.nil
                          go_simp
                          refine hKc _ _ ?_
                          clear hKc Kc
                          (try simp only [List.getElem_toArray, List.getElem_cons_zero, List.getElem_cons_succ, Act.put, List.setIfInBounds_toArray, List.set_cons_zero, List.set_cons_succ])
                          refine wpAny_ready (rs := [16]) (by kernel_rfl) (by simp) ?_
                          refine AllReady.cons (o := _) rfl (fun Kc hKc => ?_) AllReady.nil
                          go_simp
                          refine hKc _ _ ?_
                          clear hKc Kc
                          (try simp only [List.getElem_toArray, List.getElem_cons_zero, List.getElem_cons_succ, Act.put, List.setIfInBounds_toArray, List.set_cons_zero, List.set_cons_succ])
                          refine wpAny_ready (rs := [17]) (by kernel_rfl) (by simp) ?_
                          refine AllReady.cons (o := _) rfl (fun Kc hKc => ?_) AllReady.nil
                          go_simp
                          refine hKc _ _ ?_
                          clear hKc Kc
                          (try simp only [List.getElem_toArray, List.getElem_cons_zero, List.getElem_cons_succ, Act.put, List.setIfInBounds_toArray, List.set_cons_zero, List.set_cons_succ])
                          refine wpAny_ready (rs := [18]) (by kernel_rfl) (by simp) ?_
                          refine AllReady.cons (o := _) rfl (fun Kc hKc => ?_) AllReady.nil
                          go_simp
                          refine hKc _ _ ?_
                          clear hKc Kc
                          (try simp only [List.getElem_toArray, List.getElem_cons_zero, List.getElem_cons_succ, Act.put, List.setIfInBounds_toArray, List.set_cons_zero, List.set_cons_succ])
                          refine wpAny_ready (rs := [19]) (by kernel_rfl) (by simp) ?_
                          refine AllReady.cons (o := _) rfl (fun Kc hKc => ?_) AllReady.nil
                          go_simp
                          refine hKc _ _ ?_
                          clear hKc Kc
                          (try simp only [List.getElem_toArray, List.getElem_cons_zero, List.getElem_cons_succ, Act.put, List.setIfInBounds_toArray, List.set_cons_zero, List.set_cons_succ])
                          refine wpAny_done (by kernel_rfl) ?_ _
                          refine NoPanic.normal ?_
                          clear c60 f60 c61 f61 c62 f62
                          generalize ((R6.setCell ⟨pb, 0, none⟩ (.slice qa0 (P.rows.length + 1) qc0)).setCell ⟨pb, 1, none⟩ (.slice qa1 (P.rel.length + 1) qc1)).setCell ⟨pb, 2, none⟩ (.slice qa2 (P.b.length + 1) qc2) = W9 at *
                          have HBX9 : Hid (Bx W9 W5 pb (P2 V net (k + 1))) := hid ⟨_, _, _, _, _, b9, by rw [HPS.out]; exact h9, B9, s9⟩
                          clear h9 b9 x9 B9 s9
                          go_wp2_with fail
                          go_roundw
                          case rel => exact ⟨k + 1, by omega, by go_num, HBX9⟩
                          case measure => simp [intOf]; omega
        · obtain rfl : k = net.length := by omega
          obtain ⟨vs, rv, ev, bv, cv, hbx, hpv, hbel, hsz⟩ := HBX.out
          obtain ⟨qa0, qc0, rfl⟩ := kown_form hpv.rows
          obtain ⟨qa1, qc1, rfl⟩ := kown_form (show w2.ownsRow pb 3 1 ev _ _ from hpv.rel)
          obtain ⟨qa2, qc2, rfl⟩ := kown_form (show w2.ownsRow pb 3 1 bv _ _ from hpv.b)
          obtain ⟨qa3, qc3, rfl⟩ := kown_form (show w2.ownsRow pb 3 1 cv _ _ from hpv.c)
          have c0 := ibx hbx 0 _ rfl
          have c1 := ibx hbx 1 _ rfl
          have c2 := ibx hbx 2 _ rfl
          have c3 := ibx hbx 3 _ rfl
          have xr := HXR.out w2 hbel
          have r0 := ibx xr 0 (.slice none 0 0) rfl
          have r1 := ibx xr 1 (.slice none 0 0) rfl
          have r2 := ibx xr 2 (.slice none 0 0) rfl
          have r3 := ibx xr 3 (.slice none 0 0) rfl
          have f0 := free_at (L := [.slice none 0 0, .slice none 0 0, .slice none 0 0, .slice none 0 0]) xr 0
          have f1 := free_at (L := [.slice none 0 0, .slice none 0 0, .slice none 0 0, .slice none 0 0]) xr 1
          have f2 := free_at (L := [.slice none 0 0, .slice none 0 0, .slice none 0 0, .slice none 0 0]) xr 2
          have f3 := free_at (L := [.slice none 0 0, .slice none 0 0, .slice none 0 0, .slice none 0 0]) xr 3
          have e0 : (w2.setCell ⟨w.heap.size + 1, 0, none⟩ (.slice qa0 (P2 V net net.length).rows.length qc0)).heap[w.heap.size + 1]? = some (.cells #[.slice qa0 (P2 V net net.length).rows.length qc0, .slice none 0 0, .slice none 0 0, .slice none 0 0] 32 (0, 0)) := by simpa using set_at (L := [.slice none 0 0, .slice none 0 0, .slice none 0 0, .slice none 0 0]) (k := 0) (v := (.slice qa0 (P2 V net net.length).rows.length qc0)) xr
          have v0 := hpv.set (i := 0) xr (by decide) (by decide) (.slice qa0 (P2 V net net.length).rows.length qc0)
          have d0 := (HWW.out w2 hbel).setCell (p := ⟨w.heap.size + 1, 0, none⟩) (by show w.heap.size ≤ w.heap.size + 1; omega) (.slice qa0 (P2 V net net.length).rows.length qc0)
          have e1 : ((w2.setCell ⟨w.heap.size + 1, 0, none⟩ (.slice qa0 (P2 V net net.length).rows.length qc0)).setCell ⟨w.heap.size + 1, 1, none⟩ (.slice qa1 (P2 V net net.length).rel.length qc1)).heap[w.heap.size + 1]? = some (.cells #[.slice qa0 (P2 V net net.length).rows.length qc0, .slice qa1 (P2 V net net.length).rel.length qc1, .slice none 0 0, .slice none 0 0] 32 (0, 0)) := by simpa using set_at (L := [.slice qa0 (P2 V net net.length).rows.length qc0, .slice none 0 0, .slice none 0 0, .slice none 0 0]) (k := 1) (v := (.slice qa1 (P2 V net net.length).rel.length qc1)) e0
          have v1 := v0.set (i := 1) e0 (by decide) (by decide) (.slice qa1 (P2 V net net.length).rel.length qc1)
          have d1 := d0.setCell (p := ⟨w.heap.size + 1, 1, none⟩) (by show w.heap.size ≤ w.heap.size + 1; omega) (.slice qa1 (P2 V net net.length).rel.length qc1)
          have e2 : (((w2.setCell ⟨w.heap.size + 1, 0, none⟩ (.slice qa0 (P2 V net net.length).rows.length qc0)).setCell ⟨w.heap.size + 1, 1, none⟩ (.slice qa1 (P2 V net net.length).rel.length qc1)).setCell ⟨w.heap.size + 1, 2, none⟩ (.slice qa2 (P2 V net net.length).b.length qc2)).heap[w.heap.size + 1]? = some (.cells #[.slice qa0 (P2 V net net.length).rows.length qc0, .slice qa1 (P2 V net net.length).rel.length qc1, .slice qa2 (P2 V net net.length).b.length qc2, .slice none 0 0] 32 (0, 0)) := by simpa using set_at (L := [.slice qa0 (P2 V net net.length).rows.length qc0, .slice qa1 (P2 V net net.length).rel.length qc1, .slice none 0 0, .slice none 0 0]) (k := 2) (v := (.slice qa2 (P2 V net net.length).b.length qc2)) e1
          have v2 := v1.set (i := 2) e1 (by decide) (by decide) (.slice qa2 (P2 V net net.length).b.length qc2)
          have d2 := d1.setCell (p := ⟨w.heap.size + 1, 2, none⟩) (by show w.heap.size ≤ w.heap.size + 1; omega) (.slice qa2 (P2 V net net.length).b.length qc2)
          have e3 : ((((w2.setCell ⟨w.heap.size + 1, 0, none⟩ (.slice qa0 (P2 V net net.length).rows.length qc0)).setCell ⟨w.heap.size + 1, 1, none⟩ (.slice qa1 (P2 V net net.length).rel.length qc1)).setCell ⟨w.heap.size + 1, 2, none⟩ (.slice qa2 (P2 V net net.length).b.length qc2)).setCell ⟨w.heap.size + 1, 3, none⟩ (.slice qa3 (P2 V net net.length).c.length qc3)).heap[w.heap.size + 1]? = some (.cells #[.slice qa0 (P2 V net net.length).rows.length qc0, .slice qa1 (P2 V net net.length).rel.length qc1, .slice qa2 (P2 V net net.length).b.length qc2, .slice qa3 (P2 V net net.length).c.length qc3] 32 (0, 0)) := by simpa using set_at (L := [.slice qa0 (P2 V net net.length).rows.length qc0, .slice qa1 (P2 V net net.length).rel.length qc1, .slice qa2 (P2 V net net.length).b.length qc2, .slice none 0 0]) (k := 3) (v := (.slice qa3 (P2 V net net.length).c.length qc3)) e2
          have v3 := v2.set (i := 3) e2 (by decide) (by decide) (.slice qa3 (P2 V net net.length).c.length qc3)
          have d3 := d2.setCell (p := ⟨w.heap.size + 1, 3, none⟩) (by show w.heap.size ≤ w.heap.size + 1; omega) (.slice qa3 (P2 V net net.length).c.length qc3)
          have y0 := ibx e3 0 _ rfl
          have y1 := ibx e3 1 _ rfl
          have y2 := ibx e3 2 _ rfl
          have y3 := ibx e3 3 _ rfl
          have HO := hid (And.intro y0 (And.intro y1 (And.intro y2 y3)))
          have HPV := hid v3
          have HDD := hid d3
          clear hbx hpv hbel hsz xr e0 e1 e2 e3 v0 v1 v2 v3 d0 d1 d2 d3 y0 y1 y2 y3
          go_wp2_with fail
          exact bodyPost_ret (v := .agg #[.slice qa0 (P2 V net net.length).rows.length qc0, .slice qa1 (P2 V net net.length).rel.length qc1, .slice qa2 (P2 V net net.length).b.length qc2, .slice qa3 (P2 V net net.length).c.length qc3]) (by simp [results, Try.results6, go_sem, HO.out.1, HO.out.2.1, HO.out.2.2.1, HO.out.2.2.2]) rfl ⟨_, _, _, _, rfl, by rw [HVE.out, ← P2_end]; exact HPV.out.prb, HDD.out⟩
end Go.Proofs.Ytlkcfgjhgmpbcaa
