/- tableau: does a row make a list 0? -/
import Derived.Test.YtgojlegknlalpaaGreatDoorZUKeepM
import Derived.Test.YtgojlegknlalpaaGreatDoorZPTParseB
import Derived.Deep.RegionHeld3
namespace Go.Proofs.YtgojlegknlalpaaGreatDoor
open Go.RowKit
set_option linter.unusedVariables false
set_option maxRecDepth 100000
set_option linter.unusedSimpArgs false

set_option maxHeartbeats 25600000 in
theorem zero12_any (w : World) (tb : Nat) (A : List URw) (m : Nat) (hm : 18 ≤ m) (hm2 : m ≤ 1310719) (h : UTb w tb A (m / 9 + 1)) (hI : PInv A (ucols A) m) (hcl : ucols A ≤ 192) (hA : A.length ≤ 64) (i : Nat) (hi : i < A.length) (xv : Value) (X : List Int) (hx : Ints w xv X) (hl : X.length = ucols A) (htab : Tab w) :
    Calls Tryz.prog 20 #[.pointer (some ⟨tb, 0, none⟩), .int .i64 (i : Int), xv] w fun e w' => e = .returned (.bool (decide (dotV (vl A[i]) X X.length = 0))) ∧ Below w.heap.size w w' := by
  have HX := hid hx
  have HAT := hid (fun (Y : World) (b : Below w.heap.size w Y) (c : Int) => uAt_any Y tb A (m / 9 + 1) (by omega) (h.below b) hA hI.len hcl (i : Int) c (htab.below b))
  have HDL := hid (fun (k : Nat) (hk : k ≤ X.length) => dotV_lt (X := X) (k := k) hI hi (by omega))
  have HVL := hid (fun (k : Nat) (hk : k < X.length) => vl_lt (k := k) hI hi (by omega))
  have HTX := hid (fun (k : Nat) (hk : k < X.length) (s : ByteArray) (hs : UAtP A (i : Int) (k : Int) s) => uatp_at hI hi (by omega) hs)
  obtain ⟨xa, xc, rfl, xl, xm⟩ := hx.slice
  unfold maxLen at xm
  have HXL := hid (fun (xb xo xc' : Nat) (e : Value.slice xa X.length xc = .slice (some ⟨xb, xo, none⟩) X.length xc') (k : Nat) (hk : k < X.length) => show xb < w.heap.size from by
    obtain ⟨b, o, c, e', _, _, hc⟩ := HX.out.at k hk
    rw [e] at e'
    simp only [Value.slice.injEq, Option.some.injEq, Addr.mk.injEq, and_true] at e'
    have := World.block_lt_of_cell? _ _ hc
    simp only at this
    omega)
  obtain ⟨v, HV⟩ : ∃ v, Hid (vl A[i] = v) := ⟨_, hid rfl⟩
  rw [HV.out] at HDL ⊢
  have HVL2 : Hid (∀ k, k < X.length → Lt10 m (v k)) := hid (fun k hk => by rw [← HV.out]; exact HVL.out k hk)
  have HTX2 : Hid (∀ k, k < X.length → ∀ s, UAtP A (i : Int) (k : Int) s → TxR s (v k)) := hid (fun k hk s hs => by rw [← HV.out]; exact HTX.out k hk s hs)
  clear h hI hx htab HVL HTX HV hA hcl hl
  go_enter Tryz.func20, Tryz.ntmps20
  go_wp2_with fail
  refine (t_of w 0 (by decide) (by decide)).mono ?_
  rintro e W0 ⟨n0, rfl, hn0, b0⟩
  obtain ⟨y1, y2, y3, y4, y5, y6, y7, y8, rfl⟩ := hn0.form
  have bA := (Below.refl W0.heap.size W0).alloc (Nat.le_refl _) (Obj.cells #[.bool y1, .slice y2 y3 y4, .bool y5, .slice y6 y7 y8] 74)
  have x7 := box_new W0 (Obj.cells #[.bool y1, .slice y2 y3 y4, .bool y5, .slice y6 y7 y8] 74)
  have HN0 : Hid (TIs (W0.alloc (Obj.cells #[.bool y1, .slice y2 y3 y4, .bool y5, .slice y6 y7 y8] 74)) (.agg #[.bool y1, .slice y2 y3 y4, .bool y5, .slice y6 y7 y8]) (dotV v X 0) ((m + 25) / 9 + 1)) := hid ((hn0.below bA).mono (by omega))
  have HB0 := hid (chain2 b0 bA)
  have HG7 : Hid (w.heap.size ≤ W0.heap.size) := hid b0.size
  clear hn0 b0 bA
  go_wp2_with fail
  generalize W0.alloc (Obj.cells #[.bool y1, .slice y2 y3 y4, .bool y5, .slice y6 y7 y8] 74) = W1 at *
  generalize W0.heap.size = b7 at *
  have HX7 := hid x7
  clear x7
  go_loopw [8] (fun kv wr => ∃ (k : Nat) (v0 v1 v2 v3 : Value), k ≤ X.length ∧ kv = .int .i64 (k : Int) ∧ Hid (wr.heap[b7]? = some (.cells #[v0, v1, v2, v3] 74 (0, 0))) ∧ Hid (TIs wr (.agg #[v0, v1, v2, v3]) (dotV v X k) ((m + 25) / 9 + 1)) ∧ Hid (Below w.heap.size w wr)) (fun kv _ => X.length - (intOf kv).toNat)
  case atStart => exact ⟨0, _, _, _, _, Nat.zero_le _, rfl, HX7, HN0, HB0⟩
  case round =>
    clear HX7 HN0 HB0
    obtain ⟨k, v0, v1, v2, v3, hk, rfl, HB7r, HNr, HBr⟩ := hrel
    obtain ⟨n1, n2, n3, n4, n5, n6, n7, n8, hnf⟩ := HNr.out.form
    simp only [Value.agg.injEq, Array.mk.injEq, List.cons.injEq, and_true] at hnf
    obtain ⟨rfl, rfl, rfl, rfl⟩ := hnf
    by_cases hlt : k < X.length
    · go_wp2_with fail
      refine (HAT.out wr HBr.out k).mono ?_
      rintro e W2 ⟨⟨s, rfl, hs⟩, b2⟩
      have ht := HTX2.out k hlt s hs
      have hsz : s.size ≤ 3000000 := by have := txk_size ht (HVL2.out k hlt); omega
      have HT := hid ht
      clear hs ht
      go_wp2_with fail
      refine (tB_parse s W2 hsz).mono ?_
      rintro e W3 ⟨hp, b3⟩
      rcases hp with ⟨q, av, hq, rfl, ha⟩ | ⟨hno, _⟩
      case inr => exact absurd (txr_canU HT.out) (hno _)
      obtain rfl := CanR.inj hq (txr_canU HT.out)
      obtain ⟨p1, p2, p3, p4, p5, p6, p7, p8, rfl⟩ := ha.form
      have HA3 := hid (TIs.fit ha (HVL2.out k hlt))
      have bA := (Below.refl W3.heap.size W3).alloc (Nat.le_refl _) (Obj.cells #[.bool p1, .slice p2 p3 p4, .bool p5, .slice p6 p7 p8] 74)
      have x9 := box_new W3 (Obj.cells #[.bool p1, .slice p2 p3 p4, .bool p5, .slice p6 p7 p8] 74)
      have B4 := chain2 (chain2 b2 b3) bA
      have HA4 := hid (HA3.out.below bA)
      have HN4 := hid (HNr.out.below B4)
      have HB7 := hid ((B4.block b7 (lt_of_block HB7r.out)).trans HB7r.out)
      have BW4 := HBr.out.trans (B4.mono HBr.out.size)
      obtain ⟨xb, xo, xc', e, _, _, hxc⟩ := (HX.out.below BW4).at k hlt
      simp only [Value.slice.injEq] at e
      obtain ⟨rfl, -, rfl⟩ := e
      have HDN : Hid (Lt10 (m + 25) (dotV v X k + v k * ((g1k X[k] : Int) : Rat))) := hid (by have := HDL.out (k + 1) hlt; simp only [dotV] at this; rw [getD_at hlt] at this; exact this)
      have HDE : Hid (dotV v X (k + 1) = dotV v X k + v k * ((g1k X[k] : Int) : Rat)) := hid (by simp only [dotV]; rw [getD_at hlt])
      have hff : X[k].tmod 1000 = g1k X[k] := rfl
      have hyb := g1k_lt X[k]
      have H79 : Hid (b7 < W3.heap.size) := hid (by have h1 := lt_of_block HB7r.out; have h2 := (chain2 b2 b3).size; omega)
      clear hq ha HA3 hsz HT b2 b3 bA B4 HB7r HNr
      go_wp2_with fail
      generalize W3.alloc (Obj.cells #[.bool p1, .slice p2 p3 p4, .bool p5, .slice p6 p7 p8] 74) = W4 at *
      generalize W3.heap.size = b9 at *
      have HB9 : Hid (b7 < b9) := hid H79.out
      generalize hxe : X[k]'hlt = x at *
      clear hxe
      generalize g1k x = y at *
      have HYB := hid (show -9223372036854775808 ≤ y ∧ y < 9223372036854775808 by omega)
      have hw1 : IntKind.i64.wrap y = y := by rw [IntKind.wrap_i64]; omega
      have hw2 : wrap64 y = y := by simp only [wrap64]; omega
      have HCE := hid (fun (Y : World) (k' : Below W4.heap.size W4 Y) => show (Y.cell? ⟨b9, 0, none⟩ = some (.bool p1) ∧ Y.cell? ⟨b9, 1, none⟩ = some (.slice p2 p3 p4) ∧ Y.cell? ⟨b9, 2, none⟩ = some (.bool p5) ∧ Y.cell? ⟨b9, 3, none⟩ = some (.slice p6 p7 p8) ∧ Y.cell? ⟨xb, xo + k, none⟩ = some (.int .i64 x)) from ⟨kcU k' (cell_at (L := [_, _, _, _]) x9 0 _ rfl), kcU k' (cell_at (L := [_, _, _, _]) x9 1 _ rfl), kcU k' (cell_at (L := [_, _, _, _]) x9 2 _ rfl), kcU k' (cell_at (L := [_, _, _, _]) x9 3 _ rfl), kcU k' hxc⟩)
      have HNC := hid (fun (Y : World) (k' : Below W4.heap.size W4 Y) => show (Y.cell? ⟨b7, 0, none⟩ = some (.bool n1) ∧ Y.cell? ⟨b7, 1, none⟩ = some (.slice n2 n3 n4) ∧ Y.cell? ⟨b7, 2, none⟩ = some (.bool n5) ∧ Y.cell? ⟨b7, 3, none⟩ = some (.slice n6 n7 n8)) from ⟨kcU k' (cell_at (L := [_, _, _, _]) HB7.out 0 _ rfl), kcU k' (cell_at (L := [_, _, _, _]) HB7.out 1 _ rfl), kcU k' (cell_at (L := [_, _, _, _]) HB7.out 2 _ rfl), kcU k' (cell_at (L := [_, _, _, _]) HB7.out 3 _ rfl)⟩)
      have HB7L : Hid (b7 < W4.heap.size) := hid (lt_of_block HB7.out)
      have HNF := hid (fun (Y : World) (k' : Below W4.heap.size W4 Y) => show Y.frozen? ⟨b7, 0, none⟩ = false ∧ Y.frozen? ⟨b7, 1, none⟩ = false ∧ Y.frozen? ⟨b7, 2, none⟩ = false ∧ Y.frozen? ⟨b7, 3, none⟩ = false from by
        have hb := (k'.block b7 HB7L.out).trans HB7.out
        exact ⟨free_at (L := [_, _, _, _]) hb 0, free_at (L := [_, _, _, _]) hb 1, free_at (L := [_, _, _, _]) hb 2, free_at (L := [_, _, _, _]) hb 3⟩)
      have HXB : Hid (xb ≠ b7) := hid (by have h1 := HXL.out xb xo xc rfl k hlt; have h2 := HG7.out; omega)
      have HC5 := hid (fun (Y : World) (k' : Below W4.heap.size W4 Y) (a0 a1 a2 a3 : Value) => (fun Y => show (Y.cell? ⟨b9, 0, none⟩ = some (.bool p1) ∧ Y.cell? ⟨b9, 1, none⟩ = some (.slice p2 p3 p4) ∧ Y.cell? ⟨b9, 2, none⟩ = some (.bool p5) ∧ Y.cell? ⟨b9, 3, none⟩ = some (.slice p6 p7 p8) ∧ Y.cell? ⟨xb, xo + k, none⟩ = some (.int .i64 x)) → (((((Y.setCell ⟨b7, 0, none⟩ a0).setCell ⟨b7, 1, none⟩ a1).setCell ⟨b7, 2, none⟩ a2).setCell ⟨b7, 3, none⟩ a3).cell? ⟨b9, 0, none⟩ = some (.bool p1) ∧ ((((Y.setCell ⟨b7, 0, none⟩ a0).setCell ⟨b7, 1, none⟩ a1).setCell ⟨b7, 2, none⟩ a2).setCell ⟨b7, 3, none⟩ a3).cell? ⟨b9, 1, none⟩ = some (.slice p2 p3 p4) ∧ ((((Y.setCell ⟨b7, 0, none⟩ a0).setCell ⟨b7, 1, none⟩ a1).setCell ⟨b7, 2, none⟩ a2).setCell ⟨b7, 3, none⟩ a3).cell? ⟨b9, 2, none⟩ = some (.bool p5) ∧ ((((Y.setCell ⟨b7, 0, none⟩ a0).setCell ⟨b7, 1, none⟩ a1).setCell ⟨b7, 2, none⟩ a2).setCell ⟨b7, 3, none⟩ a3).cell? ⟨b9, 3, none⟩ = some (.slice p6 p7 p8) ∧ ((((Y.setCell ⟨b7, 0, none⟩ a0).setCell ⟨b7, 1, none⟩ a1).setCell ⟨b7, 2, none⟩ a2).setCell ⟨b7, 3, none⟩ a3).cell? ⟨xb, xo + k, none⟩ = some (.int .i64 x)) from fun ⟨c0, c1, c2, c3, c4⟩ => ⟨p4_keep c0 (by have := HB9.out; simp only; omega) a0 a1 a2 a3, p4_keep c1 (by have := HB9.out; simp only; omega) a0 a1 a2 a3, p4_keep c2 (by have := HB9.out; simp only; omega) a0 a1 a2 a3, p4_keep c3 (by have := HB9.out; simp only; omega) a0 a1 a2 a3, p4_keep c4 HXB.out a0 a1 a2 a3⟩) Y (HCE.out Y k'))
      have HMU := hid (fun (Y : World) (fv : Value) (k' : Below W4.heap.size W4 Y) (hf : TIs Y fv ((y : Int) : Rat) 3) => t_mul Y (.agg #[.bool p1, .slice p2 p3 p4, .bool p5, .slice p6 p7 p8]) fv (v k) ((y : Int) : Rat) (m / 9 + 1) (by omega) (HA4.out.below k') (hf.mono (by omega)))
      have HAD := hid (fun (Y : World) (mv : Value) (k' : Below W4.heap.size W4 Y) (hmv : TIs Y mv (v k * ((y : Int) : Rat)) (2 * (m / 9 + 1) + 6)) => t_add Y (.agg #[.bool n1, .slice n2 n3 n4, .bool n5, .slice n6 n7 n8]) mv (dotV v X k) (v k * ((y : Int) : Rat)) (2 * (m / 9 + 1) + 6) (by omega) ((HN4.out.below k').mono (by omega)) hmv)
      have HW4 : Hid (w.heap.size ≤ W4.heap.size) := hid BW4.size
      clear x9 hxc hyb
      have F0 : Below W4.heap.size W4 W4.drew := (Below.refl _ _).drew
      obtain ⟨e1, e2, e3, e4⟩ := HNC.out _ F0
      go_wp2_with fail
      refine wp_region_noPanic ?_
      refine wp_region_held_drew (S := fun Y => Y.cell? ⟨b9, 0, none⟩ = some (.bool p1) ∧ Y.cell? ⟨b9, 1, none⟩ = some (.slice p2 p3 p4) ∧ Y.cell? ⟨b9, 2, none⟩ = some (.bool p5) ∧ Y.cell? ⟨b9, 3, none⟩ = some (.slice p6 p7 p8) ∧ Y.cell? ⟨xb, xo + k, none⟩ = some (.int .i64 x)) (by kernel_rfl) (HCE.out _ F0) (fun hHeld => ?_)
      refine wpAnyH_take (i := 1) (v := ?_) rfl (by kernel_rfl) (by kernel_rfl) (by kernel_rfl) (fun _ _ _ h => h) (Or.inl ⟨by rfl, ?_⟩) (by assumption) ?_
      rotate_left
      · intro w hSw
        (try dsimp only at hSw)
        go_simp
        (try with_reducible rfl)
      (try simp only [List.getElem_toArray, List.getElem_cons_zero, List.getElem_cons_succ, Act.put, List.setIfInBounds_toArray, List.set_cons_zero, List.set_cons_succ])
      refine wpAnyH_take (i := 2) (v := ?_) rfl (by kernel_rfl) (by kernel_rfl) (by kernel_rfl) (fun _ _ _ h => h) (Or.inl ⟨by rfl, ?_⟩) (by assumption) ?_
      rotate_left
      · intro w hSw
        (try dsimp only at hSw)
        go_simp
        (try with_reducible rfl)
      (try simp only [List.getElem_toArray, List.getElem_cons_zero, List.getElem_cons_succ, Act.put, List.setIfInBounds_toArray, List.set_cons_zero, List.set_cons_succ])
      refine wpAnyH_take (i := 3) (v := ?_) rfl (by kernel_rfl) (by kernel_rfl) (by kernel_rfl) (fun _ _ _ h => h) (Or.inl ⟨by rfl, ?_⟩) (by assumption) ?_
      rotate_left
      · intro w hSw
        (try dsimp only at hSw)
        go_simp
        (try with_reducible rfl)
      (try simp only [List.getElem_toArray, List.getElem_cons_zero, List.getElem_cons_succ, Act.put, List.setIfInBounds_toArray, List.set_cons_zero, List.set_cons_succ])
      refine wpAnyH_take (i := 4) (v := ?_) rfl (by kernel_rfl) (by kernel_rfl) (by kernel_rfl) (fun _ _ _ h => h) (Or.inl ⟨by rfl, ?_⟩) (by assumption) ?_
      rotate_left
      · intro w hSw
        (try dsimp only at hSw)
        go_simp
        (try with_reducible rfl)
      (try simp only [List.getElem_toArray, List.getElem_cons_zero, List.getElem_cons_succ, Act.put, List.setIfInBounds_toArray, List.set_cons_zero, List.set_cons_succ])
      refine wpAnyH_take (i := 5) (v := ?_) rfl (by kernel_rfl) (by kernel_rfl) (by kernel_rfl) (fun _ _ _ h => h) (Or.inl ⟨by rfl, ?_⟩) (by assumption) ?_
      rotate_left
      · intro w hSw
        (try dsimp only at hSw)
        go_simp
        (try with_reducible rfl)
      (try simp only [List.getElem_toArray, List.getElem_cons_zero, List.getElem_cons_succ, Act.put, List.setIfInBounds_toArray, List.set_cons_zero, List.set_cons_succ])
      refine wpAnyH_take (i := 6) (v := ?_) rfl (by kernel_rfl) (by kernel_rfl) (by kernel_rfl) (fun _ _ _ h => h) (Or.inl ⟨by rfl, ?_⟩) (by assumption) ?_
      rotate_left
      · intro w hSw
        (try dsimp only at hSw)
        go_simp
        (try with_reducible rfl)
      (try simp only [List.getElem_toArray, List.getElem_cons_zero, List.getElem_cons_succ, Act.put, List.setIfInBounds_toArray, List.set_cons_zero, List.set_cons_succ])
      refine wpAnyH_ready (rs := [0, 7]) (by kernel_rfl) (by simp) ?_
      refine AllReadyH.cons (o := _) rfl (fun Kc hKc => ?_) (AllReadyH.cons (o := _) rfl (fun Kc hKc => ?_) (AllReadyH.nil))
      · go_simp
        refine hKc.out _ _ (HCE.out _ F0) (fun hHeld => ?_)
        clear hKc Kc
        (try simp only [List.getElem_toArray, List.getElem_cons_zero, List.getElem_cons_succ, Act.put, List.setIfInBounds_toArray, List.set_cons_zero, List.set_cons_succ])
        refine wpAnyH_ready (rs := [7]) (by kernel_rfl) (by simp) ?_
        refine AllReadyH.cons (o := _) rfl (fun Kc hKc => ?_) AllReadyH.nil
        go_simp
        (go_at_call 27; refine (t_of _ y HYB.out.1 HYB.out.2).mono ?_; rintro e Z1 ⟨fv, rfl, hf, bb1⟩; have F1 := chain2 F0 bb1; obtain ⟨f1, f2, f3, f4, f5, f6, f7, f8, rfl⟩ := hf.form; obtain ⟨e1, e2, e3, e4⟩ := HNC.out _ F1; obtain ⟨r1, r2, r3, r4⟩ := HNF.out _ F1)
        dsimp only
        refine hKc.out _ _ (HCE.out _ F1) (fun hHeld => ?_)
        clear hKc Kc
        (try simp only [List.getElem_toArray, List.getElem_cons_zero, List.getElem_cons_succ, Act.put, List.setIfInBounds_toArray, List.set_cons_zero, List.set_cons_succ])
        refine wpAnyH_ready (rs := [8]) (by kernel_rfl) (by simp) ?_
        refine AllReadyH.cons (o := _) rfl (fun Kc hKc => ?_) AllReadyH.nil
        go_simp
        (go_at_call 39; refine (HMU.out _ _ F1 hf).mono ?_; rintro e Z2 ⟨mv, rfl, hmv, bb2⟩; have F2 := chain2 F1 bb2; obtain ⟨m1, m2, m3, m4, m5, m6, m7, m8, rfl⟩ := hmv.form; obtain ⟨e1, e2, e3, e4⟩ := HNC.out _ F2; obtain ⟨r1, r2, r3, r4⟩ := HNF.out _ F2)
        dsimp only
        refine hKc.out _ _ (HCE.out _ F2) (fun hHeld => ?_)
        clear hKc Kc
        (try simp only [List.getElem_toArray, List.getElem_cons_zero, List.getElem_cons_succ, Act.put, List.setIfInBounds_toArray, List.set_cons_zero, List.set_cons_succ])
        refine wpAnyH_ready (rs := [9]) (by kernel_rfl) (by simp) ?_
        refine AllReadyH.cons (o := _) rfl (fun Kc hKc => ?_) AllReadyH.nil
        go_simp
        (go_at_call 41; refine (HAD.out _ _ F2 hmv).mono ?_; rintro e Z3 ⟨sv, rfl, hsv, bb3⟩; have F3 := chain2 F2 bb3; obtain ⟨s1, s2, s3, s4, s5, s6, s7, s8, rfl⟩ := hsv.form; obtain ⟨e1, e2, e3, e4⟩ := HNC.out _ F3; obtain ⟨r1, r2, r3, r4⟩ := HNF.out _ F3)
        dsimp only
        refine hKc.out _ _ (HCE.out _ F3) (fun hHeld => ?_)
        clear hKc Kc
        (try simp only [List.getElem_toArray, List.getElem_cons_zero, List.getElem_cons_succ, Act.put, List.setIfInBounds_toArray, List.set_cons_zero, List.set_cons_succ])
        refine wpAnyH_ready (rs := [10]) (by kernel_rfl) (by simp) ?_
        refine AllReadyH.cons (o := _) rfl (fun Kc hKc => ?_) AllReadyH.nil
        go_simp
        refine hKc.out _ _ (HC5.out _ F3 (.bool s1) (.slice s2 s3 s4) (.bool s5) (.slice s6 s7 s8)) (fun hHeld => ?_)
        clear hKc Kc
        (try simp only [List.getElem_toArray, List.getElem_cons_zero, List.getElem_cons_succ, Act.put, List.setIfInBounds_toArray, List.set_cons_zero, List.set_cons_succ])
        refine wpAnyH_done (by kernel_rfl) ?_ _
        refine NoPanic.normal ?_
        have hq := end_set4 (BW4.trans (F3.mono HW4.out)) ((F3.block b7 HB7L.out).trans HB7.out) HG7.out (TIs.fit hsv HDN.out) (.bool s1) (.slice s2 s3 s4) (.bool s5) (.slice s6 s7 s8)
        have HQ := hid hq
        clear hq hsv hmv hf
        go_wp2
        go_roundw
        case rel => exact ⟨k + 1, _, _, _, _, by omega, by go_num, hid HQ.out.2.1, hid (by rw [HDE.out]; exact HQ.out.2.2.2), hid HQ.out.1⟩
        case measure => simp [intOf]; omega
      · go_simp
        (go_at_call 27; refine (t_of _ y HYB.out.1 HYB.out.2).mono ?_; rintro e Z1 ⟨fv, rfl, hf, bb1⟩; have F1 := chain2 F0 bb1; obtain ⟨f1, f2, f3, f4, f5, f6, f7, f8, rfl⟩ := hf.form; obtain ⟨e1, e2, e3, e4⟩ := HNC.out _ F1; obtain ⟨r1, r2, r3, r4⟩ := HNF.out _ F1)
        dsimp only
        refine hKc.out _ _ (HCE.out _ F1) (fun hHeld => ?_)
        clear hKc Kc
        (try simp only [List.getElem_toArray, List.getElem_cons_zero, List.getElem_cons_succ, Act.put, List.setIfInBounds_toArray, List.set_cons_zero, List.set_cons_succ])
        refine wpAnyH_ready (rs := [0, 8]) (by kernel_rfl) (by simp) ?_
        refine AllReadyH.cons (o := _) rfl (fun Kc hKc => ?_) (AllReadyH.cons (o := _) rfl (fun Kc hKc => ?_) (AllReadyH.nil))
        · go_simp
          refine hKc.out _ _ (HCE.out _ F1) (fun hHeld => ?_)
          clear hKc Kc
          (try simp only [List.getElem_toArray, List.getElem_cons_zero, List.getElem_cons_succ, Act.put, List.setIfInBounds_toArray, List.set_cons_zero, List.set_cons_succ])
          refine wpAnyH_ready (rs := [8]) (by kernel_rfl) (by simp) ?_
          refine AllReadyH.cons (o := _) rfl (fun Kc hKc => ?_) AllReadyH.nil
          go_simp
          (go_at_call 39; refine (HMU.out _ _ F1 hf).mono ?_; rintro e Z2 ⟨mv, rfl, hmv, bb2⟩; have F2 := chain2 F1 bb2; obtain ⟨m1, m2, m3, m4, m5, m6, m7, m8, rfl⟩ := hmv.form; obtain ⟨e1, e2, e3, e4⟩ := HNC.out _ F2; obtain ⟨r1, r2, r3, r4⟩ := HNF.out _ F2)
          dsimp only
          refine hKc.out _ _ (HCE.out _ F2) (fun hHeld => ?_)
          clear hKc Kc
          (try simp only [List.getElem_toArray, List.getElem_cons_zero, List.getElem_cons_succ, Act.put, List.setIfInBounds_toArray, List.set_cons_zero, List.set_cons_succ])
          refine wpAnyH_ready (rs := [9]) (by kernel_rfl) (by simp) ?_
          refine AllReadyH.cons (o := _) rfl (fun Kc hKc => ?_) AllReadyH.nil
          go_simp
          (go_at_call 41; refine (HAD.out _ _ F2 hmv).mono ?_; rintro e Z3 ⟨sv, rfl, hsv, bb3⟩; have F3 := chain2 F2 bb3; obtain ⟨s1, s2, s3, s4, s5, s6, s7, s8, rfl⟩ := hsv.form; obtain ⟨e1, e2, e3, e4⟩ := HNC.out _ F3; obtain ⟨r1, r2, r3, r4⟩ := HNF.out _ F3)
          dsimp only
          refine hKc.out _ _ (HCE.out _ F3) (fun hHeld => ?_)
          clear hKc Kc
          (try simp only [List.getElem_toArray, List.getElem_cons_zero, List.getElem_cons_succ, Act.put, List.setIfInBounds_toArray, List.set_cons_zero, List.set_cons_succ])
          refine wpAnyH_ready (rs := [10]) (by kernel_rfl) (by simp) ?_
          refine AllReadyH.cons (o := _) rfl (fun Kc hKc => ?_) AllReadyH.nil
          go_simp
          refine hKc.out _ _ (HC5.out _ F3 (.bool s1) (.slice s2 s3 s4) (.bool s5) (.slice s6 s7 s8)) (fun hHeld => ?_)
          clear hKc Kc
          (try simp only [List.getElem_toArray, List.getElem_cons_zero, List.getElem_cons_succ, Act.put, List.setIfInBounds_toArray, List.set_cons_zero, List.set_cons_succ])
          refine wpAnyH_done (by kernel_rfl) ?_ _
          refine NoPanic.normal ?_
          have hq := end_set4 (BW4.trans (F3.mono HW4.out)) ((F3.block b7 HB7L.out).trans HB7.out) HG7.out (TIs.fit hsv HDN.out) (.bool s1) (.slice s2 s3 s4) (.bool s5) (.slice s6 s7 s8)
          have HQ := hid hq
          clear hq hsv hmv hf
          go_wp2
          go_roundw
          case rel => exact ⟨k + 1, _, _, _, _, by omega, by go_num, hid HQ.out.2.1, hid (by rw [HDE.out]; exact HQ.out.2.2.2), hid HQ.out.1⟩
          case measure => simp [intOf]; omega
        · go_simp
          (go_at_call 39; refine (HMU.out _ _ F1 hf).mono ?_; rintro e Z2 ⟨mv, rfl, hmv, bb2⟩; have F2 := chain2 F1 bb2; obtain ⟨m1, m2, m3, m4, m5, m6, m7, m8, rfl⟩ := hmv.form; obtain ⟨e1, e2, e3, e4⟩ := HNC.out _ F2; obtain ⟨r1, r2, r3, r4⟩ := HNF.out _ F2)
          dsimp only
          refine hKc.out _ _ (HCE.out _ F2) (fun hHeld => ?_)
          clear hKc Kc
          (try simp only [List.getElem_toArray, List.getElem_cons_zero, List.getElem_cons_succ, Act.put, List.setIfInBounds_toArray, List.set_cons_zero, List.set_cons_succ])
          refine wpAnyH_ready (rs := [0]) (by kernel_rfl) (by simp) ?_
          refine AllReadyH.cons (o := _) rfl (fun Kc hKc => ?_) AllReadyH.nil
          go_simp
          refine hKc.out _ _ (HCE.out _ F2) (fun hHeld => ?_)
          clear hKc Kc
          (try simp only [List.getElem_toArray, List.getElem_cons_zero, List.getElem_cons_succ, Act.put, List.setIfInBounds_toArray, List.set_cons_zero, List.set_cons_succ])
          refine wpAnyH_ready (rs := [9]) (by kernel_rfl) (by simp) ?_
          refine AllReadyH.cons (o := _) rfl (fun Kc hKc => ?_) AllReadyH.nil
          go_simp
          (go_at_call 41; refine (HAD.out _ _ F2 hmv).mono ?_; rintro e Z3 ⟨sv, rfl, hsv, bb3⟩; have F3 := chain2 F2 bb3; obtain ⟨s1, s2, s3, s4, s5, s6, s7, s8, rfl⟩ := hsv.form; obtain ⟨e1, e2, e3, e4⟩ := HNC.out _ F3; obtain ⟨r1, r2, r3, r4⟩ := HNF.out _ F3)
          dsimp only
          refine hKc.out _ _ (HCE.out _ F3) (fun hHeld => ?_)
          clear hKc Kc
          (try simp only [List.getElem_toArray, List.getElem_cons_zero, List.getElem_cons_succ, Act.put, List.setIfInBounds_toArray, List.set_cons_zero, List.set_cons_succ])
          refine wpAnyH_ready (rs := [10]) (by kernel_rfl) (by simp) ?_
          refine AllReadyH.cons (o := _) rfl (fun Kc hKc => ?_) AllReadyH.nil
          go_simp
          refine hKc.out _ _ (HC5.out _ F3 (.bool s1) (.slice s2 s3 s4) (.bool s5) (.slice s6 s7 s8)) (fun hHeld => ?_)
          clear hKc Kc
          (try simp only [List.getElem_toArray, List.getElem_cons_zero, List.getElem_cons_succ, Act.put, List.setIfInBounds_toArray, List.set_cons_zero, List.set_cons_succ])
          refine wpAnyH_done (by kernel_rfl) ?_ _
          refine NoPanic.normal ?_
          have hq := end_set4 (BW4.trans (F3.mono HW4.out)) ((F3.block b7 HB7L.out).trans HB7.out) HG7.out (TIs.fit hsv HDN.out) (.bool s1) (.slice s2 s3 s4) (.bool s5) (.slice s6 s7 s8)
          have HQ := hid hq
          clear hq hsv hmv hf
          go_wp2
          go_roundw
          case rel => exact ⟨k + 1, _, _, _, _, by omega, by go_num, hid HQ.out.2.1, hid (by rw [HDE.out]; exact HQ.out.2.2.2), hid HQ.out.1⟩
          case measure => simp [intOf]; omega
    · obtain rfl : k = X.length := by omega
      have hnn := HB7r.out
      have c0 := cell_at (L := [_, _, _, _]) hnn 0 _ rfl
      have c1 := cell_at (L := [_, _, _, _]) hnn 1 _ rfl
      have c2 := cell_at (L := [_, _, _, _]) hnn 2 _ rfl
      have c3 := cell_at (L := [_, _, _, _]) hnn 3 _ rfl
      clear hnn
      obtain ⟨d, HDD⟩ : ∃ d, Hid (dotV v X X.length = d) := ⟨_, hid rfl⟩
      rw [HDD.out] at HNr
      go_wp2_with fail
      refine (t_sign wr _ d _ (by omega) HNr.out).mono ?_
      rintro e W9 ⟨rfl, b9⟩
      have BF := HBr.out.trans (b9.mono HBr.out.size)
      have HSG := hid (sgn0 d)
      go_wp2
      go_ret
      refine ⟨?_, BF⟩
      show Ending.returned (.bool (sgnR d == 0)) = _
      rw [HSG.out, HDD.out]
end Go.Proofs.YtgojlegknlalpaaGreatDoor
