/- The disk: forgetOrders, lose, begin. -/
import Derived.Test.YthcefjkpiaecjaaDSeg
namespace Go.Proofs.Ythcefjkpiaecjaa
open Go.RowKit
set_option linter.unusedVariables false
set_option maxRecDepth 100000
set_option linter.unusedSimpArgs false

theorem forget_any (w : World) (S : Nat → Prop) (B b : Nat) (D : Dsk) (sl : Value) (hS : S b) (hB : B ≤ b) (h : DiskAt w b D sl) :
    Calls Try.prog 38 #[.pointer (some ⟨b, 0, none⟩)] w fun e w' => e = .returned (.tuple #[]) ∧ DiskAt w' b D.forget sl ∧ Kf S B w w' := by
  have c1 := cell_at h.blk 516 _ (dl_tail h.good.wl h.good.ll sl 4)
  have c2 := cell_at h.blk 517 _ (dl_tail h.good.wl h.good.ll sl 5)
  have c3 := cell_at h.blk 518 _ (dl_tail h.good.wl h.good.ll sl 6)
  have c4 := cell_at h.blk 519 _ (dl_tail h.good.wl h.good.ll sl 7)
  have c5 := cell_at h.blk 520 _ (dl_tail h.good.wl h.good.ll sl 8)
  have f1 := free_at h.blk
  go_enter Try.func38, Try.ntmps38
  go_wp2
  refine bodyPost_end (results_none rfl _ _ _) rfl ?_
  exact ⟨rfl, (((((h.da.set 4 (.bool false)).set 5 (.int .i64 0)).set 6 (.bool false)).set 7 (.int .i64 0)).set 8 (.int .u64 0)).disk (D := D.forget) h.good.forget, (((((Kf.refl S B w).set hS hB _).set hS hB _).set hS hB _).set hS hB _).set hS hB _⟩
theorem sectors_info : (Try.prog.info? 49).map (·.size) = some 256 := by kernel_rfl
theorem strs_one (L : List ByteArray) : ∀ v ∈ strs L, v.oneCell' = true := by
  intro v hv
  simp only [strs, List.mem_map] at hv
  obtain ⟨s, _, rfl⟩ := hv
  rfl
theorem DiskAt.segs {w : World} {b : Nat} {D : Dsk} {sl : Value} (h : DiskAt w b D sl) : (∀ j v, (strs D.la)[j]? = some v → w.cell? ⟨b, 256 + j, none⟩ = some v) ∧ (∀ j v, (strs D.wr)[j]? = some v → w.cell? ⟨b, 0 + j, none⟩ = some v) := by
  have hw := h.good.wl
  have hl := h.good.ll
  constructor
  · intro j v hv
    have hj : j < 256 := by have := (List.getElem?_eq_some_iff.1 hv).1; simp [strs] at this; omega
    refine cell_at h.blk _ _ ?_
    rw [dl_la hw hl sl j hj]
    have : j < D.la.length := by omega
    simpa [strs, this] using hv
  · intro j v hv
    have hj : j < 256 := by have := (List.getElem?_eq_some_iff.1 hv).1; simp [strs] at this; omega
    refine cell_at h.blk _ _ ?_
    rw [Nat.zero_add, dl_wr hw sl j hj]
    have : j < D.wr.length := by omega
    simpa [strs, this] using hv
theorem seg_wr {D : Dsk} (h : D.wr.length = 256) (L : List ByteArray) (hL : L.length = 256) (sl : Value) : (dlist D sl).take 0 ++ (strs L ++ (dlist D sl).drop (0 + (strs L).length)) = dlist { D with wr := L } sl := by
  have e : (strs L).length = (strs D.wr).length := by simp [strs, h, hL]
  simp only [List.take_zero, List.nil_append, Nat.zero_add, e, dlist, List.drop_left]
theorem seg_la {D : Dsk} (h : D.wr.length = 256) (h' : D.la.length = 256) (L : List ByteArray) (hL : L.length = 256) (sl : Value) : (dlist D sl).take 256 ++ (strs L ++ (dlist D sl).drop (256 + (strs L).length)) = dlist { D with la := L } sl := by
  have e1 : 256 = (strs D.wr).length := by simp [strs, h]
  have e2 : (strs L).length = (strs D.la).length := by simp [strs, h', hL]
  rw [e2]
  simp only [dlist]
  rw [show (256 : Nat) + (strs D.la).length = (strs D.wr).length + (strs D.la).length by rw [← e1], ← List.drop_drop, List.drop_left, List.drop_left]
  congr 1
  conv => lhs; rw [e1]
  exact List.take_left
/-- The whole of the sectors stored as what is written. -/
theorem DiskAt.put_wr {w w' : World} {b : Nat} {D : Dsk} {sl : Value} (h : DiskAt w b D sl) (L : List ByteArray) (hL : L.length = 256) (e2 : w'.heap[b]? = some (.cells ((dlist D sl).take 0 ++ (strs L ++ (dlist D sl).drop (0 + (strs L).length))).toArray 54 (0, 0))) (e4 : ∀ e size v n xs base, v.ownBlock ≠ some b → w.ownsRow base e size v n xs → w'.ownsRow base e size v n xs) : DiskAt w' b { D with wr := L } sl :=
  ⟨by rw [← seg_wr h.good.wl L hL sl]; exact e2, e4 _ _ _ _ _ _ h.ne h.own, { h.good with wl := hL }⟩
theorem DiskAt.put_la {w w' : World} {b : Nat} {D : Dsk} {sl : Value} (h : DiskAt w b D sl) (L : List ByteArray) (hL : L.length = 256) (e2 : w'.heap[b]? = some (.cells ((dlist D sl).take 256 ++ (strs L ++ (dlist D sl).drop (256 + (strs L).length))).toArray 54 (0, 0))) (e4 : ∀ e size v n xs base, v.ownBlock ≠ some b → w.ownsRow base e size v n xs → w'.ownsRow base e size v n xs) : DiskAt w' b { D with la := L } sl :=
  ⟨by rw [← seg_la h.good.wl h.good.ll L hL sl]; exact e2, e4 _ _ _ _ _ _ h.ne h.own, { h.good with ll := hL }⟩
theorem dlist_len {D : Dsk} (h : D.Good) (sl : Value) : (dlist D sl).length = 521 := by simp [dlist, strs, h.wl, h.ll]
theorem DiskAt.drew {w : World} {b : Nat} {D : Dsk} {sl : Value} (h : DiskAt w b D sl) : DiskAt w.drew b D sl := ⟨h.blk, h.own.drew, h.good⟩
theorem kbit_test (keep k : Nat) (hk : keep < 18446744073709551616) : (bits BinOp.and IntKind.u64 ((keep : Int) / 2 ^ (k % 64)) 1 == 1) = kbit keep k := by
  have e : (keep : Int) / 2 ^ (k % 64) = ((keep / 2 ^ (k % 64) : Nat) : Int) := by simp
  have hle : keep / 2 ^ (k % 64) ≤ keep := Nat.div_le_self _ _
  rw [e, and_one_u64 _ (Int.natCast_nonneg _) (by omega), kbit, Nat.shiftRight_eq_div_pow]
  generalize keep / 2 ^ (k % 64) = q
  rw [Bool.eq_iff_iff]
  simp only [beq_iff_eq]
  omega
set_option maxHeartbeats 2000000 in
theorem lose_any (w : World) (S : Nat → Prop) (B b : Nat) (D : Dsk) (sl : Value) (keep : Nat) (hk : keep < 18446744073709551616) (hS : S b) (hB : B ≤ b) (h : DiskAt w b D sl) :
    Calls Try.prog 33 #[.pointer (some ⟨b, 0, none⟩), .int .u64 (keep : Int)] w fun e w' => e = .returned (.tuple #[]) ∧ DiskAt w' b (D.lose keep) (.slice none 0 0) ∧ Kf S B w w' := by
  have c1 := cell_at h.blk 512 _ (dl_tail h.good.wl h.good.ll sl 0)
  rcases own_form h.own with ⟨rfl, h0⟩ | ⟨g, cap, rfl, hl, hc, _⟩
  · have h0' := List.eq_nil_of_length_eq_zero h0
    obtain ⟨w2, e1, e2, e3, e4⟩ := run_storeSeg (P := Try.prog) b 0 54 (strs D.la) 0 (dlist D _) w h.blk (by simp [strs, h.good.ll, dlist_len h.good]) (strs_one _)
    have hz : (strs D.la).length = 256 := by simp [strs, h.good.ll]
    have h2 := h.put_wr D.la h.good.ll e2 e4
    have k2 := e3 S B b rfl hS hB
    clear e2 e3 e4
    go_enter Try.func33, Try.ntmps33
    go_wp2
    refine wp_loop_rounds 1 ?_
    rw [rounds_succ]
    go_wp2
    refine wp_load_seg _ _ rfl b 256 (strs D.la) rfl h.segs.1 256 9 Try.underlying49 (by rw [sectors_info]; simp [strs, h.good.ll]) ?_
    clear h c1
    have c3 := cell_at h2.blk 512 _ (dl_tail h2.good.wl h2.good.ll _ 0)
    have c4 := cell_at h2.blk 514 _ (dl_tail h2.good.wl h2.good.ll _ 2)
    have f1 := free_at h2.blk
    go_wp2_with fail
    refine (forget_any _ S B b _ (.slice none 0 0) hS hB (((h2.da.set 0 (.slice none 0 0)).set 2 (.bool true)).disk (D := { D with wr := D.la, dead := true }) { h2.good with })).mono ?_
    rintro e w3 ⟨rfl, h3, k3⟩
    have k4 := ((k2.set (k := 512) hS hB (.slice none 0 0)).set (k := 514) hS hB (.bool true)).trans k3
    have h4 : DiskAt w3 b (D.lose keep) (.slice none 0 0) := by
      rw [show D.lose keep = Dsk.forget { D with wr := D.la, dead := true } by simp [Dsk.lose, h0', loseL]]
      exact h3
    go_wp2
    exact bodyPost_end (results_none rfl _ _ _) rfl ⟨rfl, h4, k4⟩
  · have hcell := ints_at h.own
    have hca := h.good.small
    go_enter Try.func33, Try.ntmps33
    go_wp2
    go_loopw [11] (fun i W => ∃ k : Nat, k ≤ D.ca.length ∧ i = .int .i64 k ∧ DiskAt W b { D with la := loseL keep D.wr (D.ca.take k) 0 D.la } (.slice (some ⟨g, 0, none⟩) D.ca.length cap) ∧ Kf S B w W) (fun i _ => D.ca.length - (intOf i).toNat)
    case atStart => exact ⟨0, Nat.zero_le _, rfl, h, Kf.refl _ _ _⟩
    case round =>
      obtain ⟨k, hk, rfl, hd, kp⟩ := hrel
      clear h c1 hcell
      by_cases hlt : k < D.ca.length
      · have hx := ints_at hd.own k hlt
        have hmem : D.ca.getD k 0 < 256 := hd.good.lt _ (mem_getD.2 ⟨k, hlt, rfl⟩)
        have hwr := cell_at hd.blk _ _ (dl_wr hd.good.wl _ (D.ca.getD k 0) hmem)
        have hla := cell_at hd.blk _ _ (dl_la hd.good.wl hd.good.ll _ (D.ca.getD k 0) hmem)
        have hfr := free_at hd.blk
        have hsn : loseL keep D.wr (D.ca.take (k + 1)) 0 D.la = if kbit keep k then (loseL keep D.wr (D.ca.take k) 0 D.la).set (D.ca.getD k 0) (D.wr.getD (D.ca.getD k 0) ByteArray.empty) else loseL keep D.wr (D.ca.take k) 0 D.la := by
          rw [List.take_succ_eq_append_getElem hlt, loseL_snoc, show 0 + (D.ca.take k).length = k by simp; omega]
          simp [hlt]
        have HS := hid hsn
        clear hsn
        generalize D.ca.getD k 0 = x at *
        have ht := kbit_test keep k (by assumption)
        cases hb : kbit keep k
        · rw [hb] at ht
          go_wp2
          go_roundw
          case rel => exact ⟨k + 1, by omega, by go_num, by rw [HS.out, hb]; exact hd, kp⟩
          case measure => simp [intOf]; omega
        · rw [hb] at ht
          go_wp2
          go_region
          have hd' := (hd.set (k := 256 + x) (dset_la hd.good.wl hd.good.ll _ x hmem (D.wr.getD x ByteArray.empty)) rfl { hd.good with ll := by simp [hd.good.ll] }).drew
          have kp' := (kp.set (k := 256 + x) hS hB (.string (D.wr.getD x ByteArray.empty))).drew
          rw [List.getD_eq_getElem?_getD] at hd' kp'
          generalize (wr.setCell { block := b, off := 256 + x } (Value.string (D.wr[x]?.getD ByteArray.empty))).drew = wq at *
          have HB := hid hb
          clear hb hx hwr hla hfr hd kp
          go_wp2
          go_roundw
          case rel => exact ⟨k + 1, by omega, by go_num, by rw [HS.out, HB.out]; simpa using hd', kp'⟩
          case measure => simp [intOf]; omega
      · have hk' : k = D.ca.length := by omega
        subst hk'
        rw [List.take_length] at hd
        obtain ⟨w2, e1, e2, e3, e4⟩ := run_storeSeg (P := Try.prog) b 0 54 (strs (loseL keep D.wr D.ca 0 D.la)) 0 _ wr hd.blk (by have := dlist_len hd.good (.slice (some ⟨g, 0, none⟩) D.ca.length cap); rw [this]; simp [strs, hd.good.ll]) (strs_one _)
        have hz : (strs (loseL keep D.wr D.ca 0 D.la)).length = 256 := by simp [strs, hd.good.ll]
        have h2 := hd.put_wr (loseL keep D.wr D.ca 0 D.la) hd.good.ll e2 e4
        have k2 := kp.trans (e3 S B b rfl hS hB)
        clear e2 e3 e4
        go_wp2
        refine wp_load_seg _ _ rfl b 256 (strs (loseL keep D.wr D.ca 0 D.la)) rfl hd.segs.1 256 9 Try.underlying49 (by rw [sectors_info]; simp [strs, hd.good.ll]) ?_
        clear hd kp
        have c3 := cell_at h2.blk 512 _ (dl_tail h2.good.wl h2.good.ll _ 0)
        have c4 := cell_at h2.blk 514 _ (dl_tail h2.good.wl h2.good.ll _ 2)
        have f1 := free_at h2.blk
        go_wp2_with fail
        have h5 : DiskAt ((w2.setCell ⟨b, 512, none⟩ (.slice none 0 0)).setCell ⟨b, 514, none⟩ (.bool true)) b { D with la := loseL keep D.wr D.ca 0 D.la, wr := loseL keep D.wr D.ca 0 D.la, ca := [], dead := true } (.slice none 0 0) :=
          ⟨((h2.da.set 0 (.slice none 0 0)).set 2 (.bool true)).blk, World.ownsRow_nil _ _ _ _, { h2.good with nd := by simp, lt := by simp }⟩
        have k5 := (k2.set (k := 512) hS hB (.slice none 0 0)).set (k := 514) hS hB (.bool true)
        refine (forget_any _ S B b _ _ hS hB h5).mono ?_
        rintro e w3 ⟨rfl, h3, k3⟩
        have k4 := k5.trans k3
        go_wp2
        exact bodyPost_end (results_none rfl _ _ _) rfl ⟨rfl, h3, k4⟩
end Go.Proofs.Ythcefjkpiaecjaa
