/- The document's Encode. -/
import Derived.Test.YtfpifjejooineaaRcEnc
namespace Go.Proofs.Ytfpifjejooineaa.Rc
open Go.RowKit
set_option linter.unusedVariables false
set_option maxRecDepth 100000
set_option linter.unusedSimpArgs false

theorem xzigzag_any (w : World) (n : Int) (h : I64 n) :
    Calls Try.prog 25 #[.int .i64 n] w fun e w' => e = .returned (.int .u64 (zz n : Int)) ∧ w' = w := by
  obtain ⟨h1, h2⟩ := h
  by_cases hn : n < 0
  · obtain ⟨u, hu⟩ : ∃ u : Nat, -(n + 1) = u := ⟨(-(n + 1)).toNat, by omega⟩
    have hz : zz n = u * 2 + 1 := by unfold zz; rw [if_neg (by omega)]; omega
    rw [hz]
    clear hz
    go_enter Try.func25, Try.ntmps25
    go_wp2
    go_ret
    exact ⟨by simp, rfl⟩
  · obtain ⟨u, rfl⟩ : ∃ u : Nat, n = u := ⟨n.toNat, by omega⟩
    have hz : zz (u : Int) = u * 2 := by unfold zz; rw [if_pos (by omega)]; omega
    rw [hz]
    clear hz h1
    go_enter Try.func25, Try.ntmps25
    go_wp2
    go_ret
    exact ⟨by simp, rfl⟩
theorem xencode_kind (w : World) (r : Rec) (v : Value) (hr : RecFits r) (hv : IsInts w v r.nums) (hk : r.kind < 1 ∨ 255 < r.kind) :
    Calls Try.prog 7 #[rv r v] w fun e w' => e = .returned (.tuple #[.string ⟨#[]⟩, .int .i64 1]) ∧ Below w.heap.size w w' := by
  obtain ⟨k1, k2⟩ := hr.kind
  unfold rv
  rcases hk with hk | hk
  · go_enter Try.func7, Try.ntmps7
    go_wp2
    exact bodyPost_ret (v := .tuple #[.string ⟨#[]⟩, .int .i64 1]) (by simp [results, Try.results7, go_sem]) rfl ⟨rfl, (Below.refl _ _).alloc (Nat.le_refl _) _⟩
  · have hk1 : ¬ r.kind < 1 := by omega
    go_enter Try.func7, Try.ntmps7
    go_wp2
    exact bodyPost_ret (v := .tuple #[.string ⟨#[]⟩, .int .i64 1]) (by simp [results, Try.results7, go_sem]) rfl ⟨rfl, (Below.refl _ _).alloc (Nat.le_refl _) _⟩
theorem xencode_size (w : World) (r : Rec) (v : Value) (hr : RecFits r) (hv : IsInts w v r.nums) (hk : 1 ≤ r.kind ∧ r.kind ≤ 255) (hs : 64 < r.who.size ∨ 64 < r.nums.length ∨ 16384 < r.text.size) :
    Calls Try.prog 7 #[rv r v] w fun e w' => e = .returned (.tuple #[.string ⟨#[]⟩, .int .i64 41]) ∧ Below w.heap.size w w' := by
  obtain ⟨k1, k2⟩ := hk
  have hw := hr.who
  have ht := hr.text
  unfold maxLen at hw ht
  obtain ⟨_, a, c, rfl, hn1, hn2, _⟩ := hv
  unfold maxLen at hn2
  unfold rv
  have hk1 : ¬ r.kind < 1 := by omega
  have hk2 : ¬ 255 < r.kind := by omega
  rcases (show 64 < r.who.size ∨ ¬ 64 < r.who.size ∧ 64 < r.nums.length ∨ ¬ 64 < r.who.size ∧ ¬ 64 < r.nums.length ∧ 16384 < r.text.size by omega) with h | ⟨h, h'⟩ | ⟨h, h', h''⟩
  all_goals
    clear hs
    go_enter Try.func7, Try.ntmps7
    go_wp2
    exact bodyPost_ret (v := .tuple #[.string ⟨#[]⟩, .int .i64 41]) (by simp [results, Try.results7, go_sem]) rfl ⟨rfl, (Below.refl _ _).alloc (Nat.le_refl _) _⟩

set_option maxHeartbeats 8000000 in
theorem xencode_good (w : World) (r : Rec) (v : Value) (hr : RecFits r) (hv : IsInts w v r.nums) (g : Good r) :
    Calls Try.prog 7 #[rv r v] w fun e w' => e = .returned (.tuple #[.string (Bs.str (enc r)), .int .i64 0]) ∧ Below w.heap.size w w' := by
  obtain ⟨k1, k2⟩ := g.kind
  have hw := g.who
  have ht := g.text
  have hn := g.nums
  have HI := hid hv
  obtain ⟨_, a, c, rfl, hn1, hn2, _⟩ := hv
  unfold maxLen at hn2
  unfold rv
  have hk1 : ¬ r.kind < 1 := by omega
  have hk2 : ¬ 255 < r.kind := by omega
  have hw' : ¬ (64 : Int) < (r.who.size : Int) := by omega
  have ht' : ¬ (16384 : Int) < (r.text.size : Int) := by omega
  have hn' : ¬ (64 : Int) < (r.nums.length : Int) := by omega
  obtain ⟨i0, hi, hz0, hz1, hz2⟩ := info_parts info_u8
  have q0 := Box4.new w 29 (.int .i64 r.kind) (.string r.who) (.slice a r.nums.length c) (.string r.text)
  have B0 := (Below.refl w.heap.size w).alloc (Nat.le_refl _) (Obj.cells #[.int .i64 r.kind, .string r.who, .slice a r.nums.length c, .string r.text] 29)
  obtain ⟨x, hx⟩ : ∃ x, x = UInt8.ofNat r.kind.toNat := ⟨_, rfl⟩
  have hxn : (x.toNat : Int) = r.kind := by rw [hx, u8n (by omega)]; omega
  obtain ⟨y, hy⟩ : ∃ y, y = UInt8.ofNat r.who.size := ⟨_, rfl⟩
  have hyn : (y.toNat : Int) = r.who.size := by rw [hy, u8n (by omega)]
  have o0 : ((w.alloc (Obj.cells #[.int .i64 r.kind, .string r.who, .slice a r.nums.length c, .string r.text] 29)).alloc (Obj.cells #[.int .u8 r.kind, .int .u8 (r.who.size : Int)] 5)).ownsRow (w.heap.size + 1) 5 1 (.slice (some ⟨w.heap.size + 1, 0, none⟩) 2 2) 2 (Lib.byteCells [x, y]) :=
    ⟨rfl, Or.inr ⟨w.heap.size + 1, 2, #[.int .u8 r.kind, .int .u8 (r.who.size : Int)], rfl, Nat.le_refl _, by have := heap_alloc_last (w.alloc (Obj.cells #[.int .i64 r.kind, .string r.who, .slice a r.nums.length c, .string r.text] 29)) (Obj.cells #[.int .u8 r.kind, .int .u8 (r.who.size : Int)] 5); rwa [World.size_alloc] at this, Nat.le_refl _, by unfold maxLen; omega, rfl, by rw [← hxn, ← hyn]; rfl⟩⟩
  have B1 := B0.alloc (by simp) (Obj.cells #[.int .u8 r.kind, .int .u8 (r.who.size : Int)] 5)
  have q1 := q0.below ((Below.refl (w.heap.size + 1) _).alloc (by simp) (Obj.cells #[.int .u8 r.kind, .int .u8 (r.who.size : Int)] 5)) (by omega)
  have HX := hid (And.intro hx hy)
  clear hx hxn hy hyn q0 B0
  go_enter Try.func7, Try.ntmps7
  go_wp2_with (at_builtin; refine Lib.wpList_append_own_string _ rfl _ _ 46 9 rfl (w.heap.size + 1) 5 i0 Try.underlying46 Try.underlying9 hi hz0 hz1 hz2 _ _ _ rfl o0 r.who rfl (by unfold maxLen; omega) (by omega) (by simp) ?_)
  intro v1 w1 o1' g1 _
  have b1 : Below (w.heap.size + 1) ((w.alloc (Obj.cells #[.int .i64 r.kind, .string r.who, .slice a r.nums.length c, .string r.text] 29)).alloc (Obj.cells #[.int .u8 r.kind, .int .u8 (r.who.size : Int)] 5)) w1 := (Below.refl _ _).grown g1 (by simp) (fun q hq => (o0.lt q hq).1)
  have hsz : w.heap.size + 2 ≤ ((w.alloc (Obj.cells #[.int .i64 r.kind, .string r.who, .slice a r.nums.length c, .string r.text] 29)).alloc (Obj.cells #[.int .u8 r.kind, .int .u8 (r.who.size : Int)] 5)).heap.size := by simp
  clear g1 o0
  generalize ((w.alloc (Obj.cells #[Value.int .i64 r.kind, .string r.who, .slice a r.nums.length c, .string r.text] 29)).alloc (Obj.cells #[.int .u8 r.kind, .int .u8 (r.who.size : Int)] 5)) = W at *
  have HC := hid (show ∀ X, Below (w.heap.size + 1) W X → X.cell? ⟨w.heap.size, 2, none⟩ = some (.slice a r.nums.length c) ∧ X.cell? ⟨w.heap.size, 3, none⟩ = some (.string r.text) from fun X h => ⟨(q1.below h (by omega)).c2, (q1.below h (by omega)).c3⟩)
  have HB := hid B1
  clear B1 q1 hr g
  obtain ⟨L1, HL1⟩ : ∃ L1, Hid (L1 = [x] ++ tx 1 (Bs.of r.who)) := ⟨_, rfl⟩
  have o1 : w1.ownsRow (w.heap.size + 1) 5 1 v1 L1.length (Lib.byteCells L1) := by
    have e : L1 = [x, y] ++ Bs.of r.who := by rw [HL1.out, tx, cnt1, of_len, HX.out.2]; rfl
    rw [e, Lib.byteCells_append, List.length_append, of_len]
    exact o1'
  have hl1 : L1.length ≤ 70 := by rw [HL1.out]; simp [tx, cnt_len, of_len]; omega
  clear o1'
  obtain ⟨c2, c3⟩ := HC.out w1 b1
  have s1 := b1.size
  obtain ⟨m1, hm1⟩ : ∃ m, L1.length = m := ⟨_, rfl⟩
  rw [hm1] at o1 hl1
  have HM1 := hid hm1
  clear hm1
  go_wp2_with (at_builtin; refine wpList_append_own _ rfl _ _ 46 rfl (w.heap.size + 1) 5 i0 (.int .u8 0) 1 1 Try.underlying46 hi hz0 hz1 hz2 rfl (by decide) _ _ _ rfl (o1.alloc _) ⟨w1.heap.size, 0, none⟩ 1 1 [.int .u8 ((r.nums.length : Int))] rfl rfl (by intro j u hu; match j, hu with | 0, hu => simp at hu; subst hu; simp [Addr.add]) (by intro u hu; simp at hu; subst hu; rfl) (by unfold maxLen; omega) (by omega) (by simp; omega) ?_)
  intro v2 w2 o2' g2 _
  have b2 : Below (w.heap.size + 1) W w2 := (b1.alloc (by omega) _).grown g2 (by simp; omega) (fun q hq => (o1.lt q hq).1)
  obtain ⟨L2, HL2⟩ : ∃ L2, Hid (L2 = L1 ++ cnt 1 r.nums.length) := ⟨_, rfl⟩
  have o2 : w2.ownsRow (w.heap.size + 1) 5 1 v2 L2.length (Lib.byteCells L2) := by
    rw [HL2.out, Lib.byteCells_append, List.length_append, cnt1, HM1.out, show Lib.byteCells [UInt8.ofNat r.nums.length] = [.int .u8 (r.nums.length : Int)] by simp only [Lib.byteCells, List.map]; rw [u8n (by omega)]]
    exact o2'
  have hl2 : L2.length ≤ 71 := by rw [HL2.out, List.length_append, cnt_len, HM1.out]; omega
  clear o2' g2 o1 c2 c3
  go_wp2
  go_loopw [4, 5] (fun v c wr => ∃ (k : Nat) (L3 : Bs), k ≤ r.nums.length ∧ c = .int .i64 k ∧ Hid (L3 = L2 ++ gs (r.nums.take k)) ∧ wr.ownsRow (w.heap.size + 1) 5 1 v L3.length (Lib.byteCells L3) ∧ Below (w.heap.size + 1) W wr) (fun _ c _ => r.nums.length - (intOf c).toNat)
  case atStart => exact ⟨0, L2, Nat.zero_le _, rfl, by show _ = _; simp [gs], o2, b2⟩
  case round =>
    obtain ⟨k, L3, hk, rfl, HL3, o3, b3⟩ := hrel
    clear o2
    have hl3 : L3.length ≤ 1000 := by
      have hgl : (gs (r.nums.take k)).length ≤ 10 * k := gs_len _ _ (fun n hn => HI.out.1 n (List.mem_of_mem_take hn)) (by simp; omega)
      rw [HL3.out, List.length_append]; omega
    have s3 := b3.size
    obtain ⟨c2, c3⟩ := HC.out wr b3
    by_cases hlt : k < r.nums.length
    · have hI := HI.out.below (HB.out.trans (b3.mono (by omega)))
      have hn64 := hI.1 r.nums[k] (List.getElem_mem hlt)
      obtain ⟨_, a', c', he, _, _, h0 | ⟨b, off, hab, hcell⟩⟩ := hI
      · rw [h0] at hlt; simp at hlt
      · simp only [Value.slice.injEq] at he
        obtain ⟨rfl, _, rfl⟩ := he
        subst hab
        have hck := hcell k hlt
        clear hcell
        have HS := hid (show r.nums.take (k + 1) = r.nums.take k ++ [r.nums[k]] by rw [List.take_add_one]; simp [List.getElem?_eq_getElem hlt])
        generalize r.nums[k] = n at *
        go_wp2_with fail
        refine (xzigzag_any wr n hn64).mono ?_
        rintro e w' ⟨rfl, rfl⟩
        have hz := zz_lt hn64
        have hgz := grp_len hz
        have HZ := hid (show L3 ++ grp (zz n) = L2 ++ gs (r.nums.take (k + 1)) by rw [HS.out, gs_snoc, ← List.append_assoc, ← HL3.out])
        have HG := hid hgz
        clear hgz hck c2 c3
        generalize zz n = z at *
        go_wp2
        go_loopw [4, 6] (fun v c wr => ∃ (m : Bs) (y : Nat), c = .int .u64 (y : Int) ∧ y < 18446744073709551616 ∧ Hid (m ++ grp y = L3 ++ grp z) ∧ wr.ownsRow (w.heap.size + 1) 5 1 v m.length (Lib.byteCells m) ∧ Below (w.heap.size + 1) W wr) (fun _ c _ => (intOf c).toNat)
        case atStart => exact ⟨L3, z, rfl, hz, rfl, o3, b3⟩
        case round =>
          obtain ⟨m, y, rfl, hy, HM, o4, b4⟩ := hrel
          clear o3 b3
          have s4 := b4.size
          have hml : m.length ≤ 2000 := by
            have h1 := congrArg List.length HM.out
            simp only [List.length_append] at h1
            have := HG.out
            omega
          obtain ⟨mm, hmm⟩ : ∃ mm, m.length = mm := ⟨_, rfl⟩
          rw [hmm] at o4 hml
          have HMM := hid hmm
          clear hmm
          by_cases hge : 128 ≤ y
          · obtain ⟨x2, hx2⟩ : ∃ x2, x2 = UInt8.ofNat (y % 128 + 128) := ⟨_, rfl⟩
            have HG2 := hid (show m ++ [x2] ++ grp (y / 128) = L3 ++ grp z by rw [← HM.out, grp_ge hge, hx2, List.append_assoc]; rfl)
            have HXN := hid (show (x2.toNat : Int) = (y : Int) % 128 + 128 by rw [hx2, u8n (by omega)]; simp)
            clear hx2
            go_wp2_with (at_builtin; refine wpList_append_own _ rfl _ _ 46 rfl (w.heap.size + 1) 5 i0 (.int .u8 0) 1 1 Try.underlying46 hi hz0 hz1 hz2 rfl (by decide) _ _ _ rfl (o4.alloc _) ⟨wr.heap.size, 0, none⟩ 1 1 [.int .u8 ((y : Int) % 128 + 128)] rfl rfl (by intro j u hu; match j, hu with | 0, hu => simp at hu; subst hu; simp [Addr.add]) (by intro u hu; simp at hu; subst hu; rfl) (by unfold maxLen; omega) (by omega) (by simp; omega) ?_)
            intro v5 w5 o5' g5 _
            have b5 : Below (w.heap.size + 1) W w5 := (b4.alloc (by omega) _).grown g5 (by simp; omega) (fun q hq => (o4.lt q hq).1)
            have o5 : w5.ownsRow (w.heap.size + 1) 5 1 v5 (m ++ [x2]).length (Lib.byteCells (m ++ [x2])) := by
              rw [List.length_append, HMM.out, Lib.byteCells_append]
              rw [← HXN.out] at o5'
              exact o5'
            clear o5' g5 o4 b4
            go_wp2
            go_roundw
            case rel => exact ⟨m ++ [x2], y / 128, by go_num, by omega, HG2.out, o5, b5⟩
            case measure => simp [intOf]; omega
          · obtain ⟨x2, hx2⟩ : ∃ x2, x2 = UInt8.ofNat y := ⟨_, rfl⟩
            have HG2 := hid (show m ++ [x2] = L2 ++ gs (r.nums.take (k + 1)) by rw [← HZ.out, ← HM.out, grp_lt (by omega), hx2])
            have HXN := hid (show (x2.toNat : Int) = (y : Int) by rw [hx2, u8n (by omega)])
            clear hx2
            go_wp2_with (at_builtin; refine wpList_append_own _ rfl _ _ 46 rfl (w.heap.size + 1) 5 i0 (.int .u8 0) 1 1 Try.underlying46 hi hz0 hz1 hz2 rfl (by decide) _ _ _ rfl (o4.alloc _) ⟨wr.heap.size, 0, none⟩ 1 1 [.int .u8 ((y : Int))] rfl rfl (by intro j u hu; match j, hu with | 0, hu => simp at hu; subst hu; simp [Addr.add]) (by intro u hu; simp at hu; subst hu; rfl) (by unfold maxLen; omega) (by omega) (by simp; omega) ?_)
            intro v5 w5 o5' g5 _
            have b5 : Below (w.heap.size + 1) W w5 := (b4.alloc (by omega) _).grown g5 (by simp; omega) (fun q hq => (o4.lt q hq).1)
            have o5 : w5.ownsRow (w.heap.size + 1) 5 1 v5 (m ++ [x2]).length (Lib.byteCells (m ++ [x2])) := by
              rw [List.length_append, HMM.out, Lib.byteCells_append]
              rw [← HXN.out] at o5'
              exact o5'
            clear o5' g5 o4 b4
            go_wp2
            go_roundw
            case rel => exact ⟨k + 1, m ++ [x2], by omega, by go_num, HG2.out, o5, b5⟩
            case measure => simp [intOf]; omega
    · obtain rfl : k = r.nums.length := by omega
      obtain ⟨mm, hmm⟩ : ∃ mm, L3.length = mm := ⟨_, rfl⟩
      rw [hmm] at o3 hl3
      have HMM := hid hmm
      clear hmm
      have ht5 : (r.text.size : Int) / 256 < 256 := by omega
      go_wp2_with (first | (at_builtin; refine wpList_append_own _ rfl _ _ 46 rfl (w.heap.size + 1) 5 i0 (.int .u8 0) 1 1 Try.underlying46 hi hz0 hz1 hz2 rfl (by decide) _ _ _ rfl (o3.alloc _) ⟨wr.heap.size, 0, none⟩ 2 2 [.int .u8 ((r.text.size : Int) / 256), .int .u8 ((r.text.size : Int) % 256)] rfl rfl (by intro j u hu; match j, hu with | 0, hu => (simp at hu; subst hu; simp [Addr.add]) | 1, hu => (simp at hu; subst hu; simp [Addr.add])) (by intro u hu; simp at hu; rcases hu with rfl | rfl <;> rfl) (by unfold maxLen; omega) (by omega) (by simp; omega) ?_))
      intro v4 w4 o4' g4 _
      have b4 : Below (w.heap.size + 1) W w4 := (b3.alloc (by omega) _).grown g4 (by simp; omega) (fun q hq => (o3.lt q hq).1)
      obtain ⟨L4, HL4⟩ : ∃ L4, Hid (L4 = L3 ++ cnt 2 r.text.size) := ⟨_, rfl⟩
      have o4 : w4.ownsRow (w.heap.size + 1) 5 1 v4 (mm + 2) (Lib.byteCells L4) := by
        rw [HL4.out, Lib.byteCells_append, cnt2, show Lib.byteCells [UInt8.ofNat (r.text.size / 256), UInt8.ofNat r.text.size] = [.int .u8 ((r.text.size : Int) / 256), .int .u8 ((r.text.size : Int) % 256)] by
          simp only [Lib.byteCells, List.map]
          rw [u8n (by omega), UInt8.toNat_ofNat']
          simp]
        exact o4'
      clear o4' g4 o3 c2 c3
      obtain ⟨c2, c3⟩ := HC.out w4 b4
      have s4 := b4.size
      obtain ⟨sa4, sc4, rfl⟩ := own_slice o4
      go_wp2_with (at_builtin; refine Lib.wpList_append_own_string _ rfl _ _ 46 9 rfl (w.heap.size + 1) 5 i0 Try.underlying46 Try.underlying9 hi hz0 hz1 hz2 _ _ _ rfl o4 r.text rfl (by unfold maxLen; omega) (by omega) (by omega) ?_)
      intro v5 w5 o5' g5 _
      have b5 : Below (w.heap.size + 1) W w5 := b4.grown g5 (by omega) (fun q hq => (o4.lt q hq).1)
      have hE : L4 ++ Bs.of r.text = enc r := by
        rw [HL4.out, HL3.out, HL2.out, HL1.out, HX.out.1, enc, List.take_length]
        simp only [tx, of_len, List.append_assoc, List.cons_append, List.nil_append]
      have o5 : w5.ownsRow (w.heap.size + 1) 5 1 v5 (enc r).length (Lib.byteCells (enc r)) := by
        have e : (enc r).length = mm + 2 + r.text.size := by rw [← hE, List.length_append, HL4.out, List.length_append, cnt_len, HMM.out, of_len]
        rw [e, ← hE, Lib.byteCells_append]
        exact o5'
      have hne : enc r ≠ [] := by unfold enc; simp
      obtain ⟨g6, c6, rfl, hg6⟩ := bytes_form o5 hne
      have hcv := bytes_conv o5
      have HF := hid (HB.out.trans (b5.mono (by omega)))
      clear hE hne o5 b5 b3 HL3 HL2 HL1 o5' g5
      obtain ⟨T, HT⟩ : ∃ T, Hid ((enc r).str = T) := ⟨_, rfl⟩
      rw [HT.out] at hcv
      generalize (enc r).length = M at *
      go_wp2
      exact bodyPost_ret (v := .tuple #[.string T, .int .i64 0]) (by simp [results, Try.results7, go_sem]) rfl ⟨by rw [HT.out], HF.out⟩
theorem xencode_any (w : World) (r : Rec) (v : Value) (hr : RecFits r) (hv : IsInts w v r.nums) :
    Calls Try.prog 7 #[rv r v] w fun e w' => e = .returned (.tuple #[.string (encT r), .int .i64 (encE r)]) ∧ Below w.heap.size w w' := by
  by_cases h1 : r.kind < 1 ∨ 255 < r.kind
  · have e : encE r = 1 := by unfold encE; rw [if_pos h1]
    rw [show encT r = ⟨#[]⟩ by unfold encT; rw [e]; rfl, e]
    exact xencode_kind w r v hr hv h1
  · by_cases h2 : 64 < r.who.size ∨ 64 < r.nums.length ∨ 16384 < r.text.size
    · have e : encE r = 41 := by unfold encE; rw [if_neg h1, if_pos h2]
      rw [show encT r = ⟨#[]⟩ by unfold encT; rw [e]; rfl, e]
      exact xencode_size w r v hr hv (by omega) h2
    · have e : encE r = 0 := by unfold encE; rw [if_neg h1, if_neg h2]
      rw [show encT r = Bs.str (enc r) by unfold encT; rw [if_pos e], e]
      exact xencode_good w r v hr hv ((encE_good hv.1).1 e)
end Go.Proofs.Ytfpifjejooineaa.Rc
