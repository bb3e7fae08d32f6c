/- record: Encode. -/
import Derived.Test.YtfpifjejooineaaRcApp
import Derived.Deep.RegionHeld3
namespace Go.Proofs.Ytfpifjejooineaa.Rc
open Go.RowKit
set_option linter.unusedVariables false
set_option maxRecDepth 100000
set_option linter.unusedSimpArgs false

theorem encode_kind (w : World) (r : Rec) (v : Value) (hr : RecFits r) (hv : IsInts w v r.nums) (hk : r.kind < 1 ∨ 255 < r.kind) :
    Calls Try.prog 69 #[rv r v] w fun e w' => e = .returned (.tuple #[.string ⟨#[]⟩, .int .i64 1]) ∧ Below w.heap.size w w' := by
  obtain ⟨k1, k2⟩ := hr.kind
  unfold rv
  rcases hk with hk | hk
  · go_enter Try.func69, Try.ntmps69
    go_wp2
    exact bodyPost_ret (v := .tuple #[.string ⟨#[]⟩, .int .i64 1]) (by simp [results, Try.results69, go_sem]) rfl ⟨rfl, (Below.refl _ _).alloc (Nat.le_refl _) _⟩
  · have hk1 : ¬ r.kind < 1 := by omega
    go_enter Try.func69, Try.ntmps69
    go_wp2
    exact bodyPost_ret (v := .tuple #[.string ⟨#[]⟩, .int .i64 1]) (by simp [results, Try.results69, go_sem]) rfl ⟨rfl, (Below.refl _ _).alloc (Nat.le_refl _) _⟩
theorem encode_size (w : World) (r : Rec) (v : Value) (hr : RecFits r) (hv : IsInts w v r.nums) (hk : 1 ≤ r.kind ∧ r.kind ≤ 255) (hs : 64 < r.who.size ∨ 64 < r.nums.length ∨ 16384 < r.text.size) :
    Calls Try.prog 69 #[rv r v] w fun e w' => e = .returned (.tuple #[.string ⟨#[]⟩, .int .i64 41]) ∧ Below w.heap.size w w' := by
  obtain ⟨k1, k2⟩ := hk
  have hw := hr.who
  have ht := hr.text
  unfold maxLen at hw ht
  obtain ⟨_, a, c, rfl, hn1, hn2, _⟩ := hv
  unfold maxLen at hn2
  unfold rv
  have hk1 : ¬ r.kind < 1 := by omega
  have hk2 : ¬ 255 < r.kind := by omega
  rcases (show 64 < r.who.size ∨ ¬ 64 < r.who.size ∧ 64 < r.nums.length ∨ ¬ 64 < r.who.size ∧ ¬ 64 < r.nums.length ∧ 16384 < r.text.size by omega) with h | ⟨h, h'⟩ | ⟨h, h', h''⟩
  all_goals
    clear hs
    go_enter Try.func69, Try.ntmps69
    go_wp2
    exact bodyPost_ret (v := .tuple #[.string ⟨#[]⟩, .int .i64 41]) (by simp [results, Try.results69, go_sem]) rfl ⟨rfl, (Below.refl _ _).alloc (Nat.le_refl _) _⟩
theorem bytes_at {w : World} {base g cap : Nat} {l : List UInt8} (h : w.ownsRow base 5 1 (.slice (some ⟨g, 0, none⟩) l.length cap) l.length (Lib.byteCells l)) (j : Nat) (hj : j < l.length) : w.cell? ⟨g, j, none⟩ = some (.int .u8 (l[j]'hj).toNat) := by
  have := h.cells (g := g) rfl j (.int .u8 (l[j]'hj).toNat) (by simp [Lib.byteCells, hj])
  rwa [add_off, Nat.zero_add] at this
theorem bytes_form {w : World} {base : Nat} {v : Value} {l : List UInt8} (h : w.ownsRow base 5 1 v l.length (Lib.byteCells l)) (hl : l ≠ []) : ∃ g cap, v = .slice (some ⟨g, 0, none⟩) l.length cap ∧ g < w.heap.size := by
  rcases h.2 with ⟨h1, h2⟩ | ⟨g, cap, cur, hv, hg, hh, r1, r2, _⟩
  · exact absurd (List.eq_nil_of_length_eq_zero h2) hl
  · exact ⟨g, cap, hv, lt_of_block hh⟩
theorem bytes_conv {w : World} {base g cap : Nat} {l : List UInt8} (h : w.ownsRow base 5 1 (.slice (some ⟨g, 0, none⟩) l.length cap) l.length (Lib.byteCells l)) :
    (convert 46 9 (.slice (some ⟨g, 0, none⟩) l.length cap)).run Try.prog w = .ok (.string (Bs.str l)) w :=
  run_convert_bytes_back (P := Try.prog) w 46 9 5 ⟨g, 0, none⟩ cap l Try.underlying46 Try.underlying5 Try.underlying9 (fun j hj => by
    rw [Addr.add_lit, Nat.zero_add]
    exact bytes_at h j hj)
theorem gs_len : ∀ (L : List Int) (k : Nat), (∀ n ∈ L, I64 n) → L.length ≤ k → (gs L).length ≤ 10 * k
  | [], _, _, _ => by simp [gs]
  | n :: L, 0, _, h => by simp at h
  | n :: L, k + 1, hf, h => by
    have h1 := gs_len L k (fun m hm => hf m (by simp [hm])) (by simpa using h)
    have h2 := grp_len (zz_lt (hf n (by simp)))
    rw [gs, List.length_append]; omega
set_option maxHeartbeats 4000000 in
theorem encode_good (w : World) (r : Rec) (v : Value) (hr : RecFits r) (hv : IsInts w v r.nums) (g : Good r) :
    Calls Try.prog 69 #[rv r v] w fun e w' => e = .returned (.tuple #[.string (Bs.str (enc r)), .int .i64 0]) ∧ Below w.heap.size w w' := by
  obtain ⟨k1, k2⟩ := g.kind
  have hw := g.who
  have ht := g.text
  have hn := g.nums
  have HI := hid hv
  obtain ⟨_, a, c, rfl, hn1, hn2, _⟩ := hv
  unfold maxLen at hn2
  unfold rv
  have hk1 : ¬ r.kind < 1 := by omega
  have hk2 : ¬ 255 < r.kind := by omega
  have hw' : ¬ (64 : Int) < (r.who.size : Int) := by omega
  have ht' : ¬ (16384 : Int) < (r.text.size : Int) := by omega
  have hn' : ¬ (64 : Int) < (r.nums.length : Int) := by omega
  have q0 := Box4.new w 29 (.int .i64 r.kind) (.string r.who) (.slice a r.nums.length c) (.string r.text)
  have B0 := (Below.refl w.heap.size w).alloc (Nat.le_refl _) (Obj.cells #[.int .i64 r.kind, .string r.who, .slice a r.nums.length c, .string r.text] 29)
  go_enter Try.func69, Try.ntmps69
  go_wp2_with fail
  obtain ⟨x, hx⟩ : ∃ x, x = UInt8.ofNat r.kind.toNat := ⟨_, rfl⟩
  have hxn : (x.toNat : Int) = r.kind := by rw [hx, u8n (by omega)]; omega
  have o0 : ((w.alloc (Obj.cells #[.int .i64 r.kind, .string r.who, .slice a r.nums.length c, .string r.text] 29)).alloc (Obj.cells #[.int .u8 r.kind] 5)).ownsRow (w.heap.size + 1) 5 1 (.slice (some ⟨w.heap.size + 1, 0, none⟩) 1 1) [x].length (Lib.byteCells [x]) :=
    ⟨rfl, Or.inr ⟨w.heap.size + 1, 1, #[.int .u8 r.kind], rfl, Nat.le_refl _, by have := heap_alloc_last (w.alloc (Obj.cells #[.int .i64 r.kind, .string r.who, .slice a r.nums.length c, .string r.text] 29)) (Obj.cells #[.int .u8 r.kind] 5); rwa [World.size_alloc] at this, Nat.le_refl _, by unfold maxLen; omega, rfl, by rw [← hxn]; rfl⟩⟩
  have B1 := B0.alloc (by simp) (Obj.cells #[.int .u8 r.kind] 5)
  have q1 := q0.below ((Below.refl (w.heap.size + 1) _).alloc (by simp) (Obj.cells #[.int .u8 r.kind] 5)) (by omega)
  have hsz : w.heap.size + 2 ≤ ((w.alloc (Obj.cells #[.int .i64 r.kind, .string r.who, .slice a r.nums.length c, .string r.text] 29)).alloc (Obj.cells #[.int .u8 r.kind] 5)).heap.size := by simp
  have HX := hid hx
  clear hx hxn q0 B0
  generalize ((w.alloc (Obj.cells #[Value.int .i64 r.kind, .string r.who, .slice a r.nums.length c, .string r.text] 29)).alloc (Obj.cells #[.int .u8 r.kind] 5)) = W at *
  have HC := hid (show ∀ X, Below (w.heap.size + 1) W X → X.cell? ⟨w.heap.size, 2, none⟩ = some (.slice a r.nums.length c) ∧ X.cell? ⟨w.heap.size, 3, none⟩ = some (.string r.text) from fun X h => ⟨(q1.below h (by omega)).c2, (q1.below h (by omega)).c3⟩)
  have HB := hid B1
  clear B1 q1 hr g
  refine (appendText_any W (w.heap.size + 1) _ [x] r.who 1 (by omega) (by omega) (by simp) (by omega) o0).mono ?_
  rintro e w1 ⟨⟨v1, rfl, o1⟩, b1⟩
  clear o0
  obtain ⟨c2, c3⟩ := HC.out w1 b1
  have s1 := b1.size
  have HL : [x] ++ tx 1 (Bs.of r.who) = [x] ++ tx 1 (Bs.of r.who) := rfl
  obtain ⟨L1, hL1⟩ : ∃ L1, L1 = [x] ++ tx 1 (Bs.of r.who) := ⟨_, rfl⟩
  rw [← hL1] at o1
  have hl1 : L1.length ≤ 70 := by rw [hL1]; simp [tx, cnt_len, of_len]; omega
  have HL1 := hid hL1
  clear hL1 HL
  obtain ⟨a1, d1, rfl⟩ := own_slice o1
  go_wp2_with fail
  refine (appendCount_any w1 (w.heap.size + 1) _ L1 r.nums.length 1 (by omega) (by omega) (by omega) (by omega) o1).mono ?_
  rintro e w2 ⟨⟨v2, rfl, o2⟩, b2'⟩
  have b2 := b1.trans b2'
  clear o1 b2' c2 c3
  obtain ⟨c2, c3⟩ := HC.out w2 b2
  have s2 := b2.size
  obtain ⟨L2, hL2⟩ : ∃ L2, L2 = L1 ++ cnt 1 r.nums.length := ⟨_, rfl⟩
  rw [← hL2] at o2
  have hl2 : L2.length ≤ 71 := by rw [hL2, List.length_append, cnt_len]; omega
  have HL2 := hid hL2
  clear hL2
  obtain ⟨a2, d2, rfl⟩ := own_slice o2
  go_wp2
  go_loopw [4, 47] (fun v c wr => ∃ (k : Nat) (L3 : Bs), k ≤ r.nums.length ∧ c = .int .i64 k ∧ Hid (L3 = L2 ++ gs (r.nums.take k)) ∧ wr.ownsRow (w.heap.size + 1) 5 1 v L3.length (Lib.byteCells L3) ∧ Below (w.heap.size + 1) W wr) (fun _ c _ => r.nums.length - (intOf c).toNat)
  case atStart => exact ⟨0, L2, Nat.zero_le _, rfl, by show _ = _; simp [gs], o2, b2⟩
  case round =>
    obtain ⟨k, L3, hk, rfl, HL3, o3, b3⟩ := hrel
    clear o2 c2 c3
    have hl3 : L3.length ≤ 1000 := by
      have hgl : (gs (r.nums.take k)).length ≤ 10 * k := gs_len _ _ (fun n hn => HI.out.1 n (List.mem_of_mem_take hn)) (by simp; omega)
      rw [HL3.out, List.length_append]; omega
    have s3 := b3.size
    obtain ⟨a3, d3, rfl⟩ := own_slice o3
    by_cases hlt : k < r.nums.length
    · have hI := HI.out.below (HB.out.trans (b3.mono (by omega)))
      have hn64 := hI.1 r.nums[k] (List.getElem_mem hlt)
      obtain ⟨_, a', c', he, _, _, h0 | ⟨b, off, hab, hcell⟩⟩ := hI
      · rw [h0] at hlt; simp at hlt
      · simp only [Value.slice.injEq] at he
        obtain ⟨rfl, _, rfl⟩ := he
        subst hab
        have hck := hcell k hlt
        clear hcell
        have HS := hid (show r.nums.take (k + 1) = r.nums.take k ++ [r.nums[k]] by rw [List.take_add_one]; simp [List.getElem?_eq_getElem hlt])
        generalize r.nums[k] = n at *
        go_wp2_with fail
        refine (zigzag_any wr n hn64).mono ?_
        rintro e w' ⟨rfl, rfl⟩
        have hz := zz_lt hn64
        have HZ := hid (show L3 ++ grp (zz n) = L2 ++ gs (r.nums.take (k + 1)) by rw [HS.out, gs_snoc, ← List.append_assoc, ← HL3.out])
        generalize zz n = z at *
        go_wp2_with fail
        refine (appendGroups_any w' (w.heap.size + 1) _ L3 z hz (by omega) (by omega) o3).mono ?_
        rintro e w4 ⟨⟨v4, rfl, o4⟩, b4'⟩
        have b4 := b3.trans b4'
        clear o3 b4'
        obtain ⟨L4, HL4⟩ : ∃ L4, Hid (L4 = L3 ++ grp z) := ⟨_, rfl⟩
        rw [← HL4.out] at o4
        obtain ⟨a4, d4, rfl⟩ := own_slice o4
        go_wp2
        go_roundw
        case rel => exact ⟨k + 1, L4, by omega, by go_num, HL4.out.trans HZ.out, o4, b4⟩
        case measure => simp [intOf]; omega
    · obtain rfl : k = r.nums.length := by omega
      obtain ⟨c2, c3⟩ := HC.out wr b3
      go_wp2_with fail
      refine (appendText_any wr (w.heap.size + 1) _ L3 r.text 2 (by omega) (by omega) (by omega) (by omega) o3).mono ?_
      rintro e w4 ⟨⟨v4, rfl, o4⟩, b4'⟩
      have b4 := b3.trans b4'
      clear o3 b4' c2 c3
      have hE : L3 ++ tx 2 (Bs.of r.text) = enc r := by
        rw [HL3.out, HL2.out, HL1.out, HX.out, enc, List.take_length]
        simp only [List.append_assoc, List.cons_append, List.nil_append]
      rw [hE] at o4
      have hne : enc r ≠ [] := by unfold enc; simp
      obtain ⟨g4, c4, rfl, hg4⟩ := bytes_form o4 hne
      have hcv := bytes_conv o4
      have HF := hid (HB.out.trans (b4.mono (by omega)))
      clear hE hne o4 b4 b3 HL3 HL2 HL1
      obtain ⟨T, HT⟩ : ∃ T, Hid ((enc r).str = T) := ⟨_, rfl⟩
      rw [HT.out] at hcv
      generalize (enc r).length = M at *
      go_wp2
      exact bodyPost_ret (v := .tuple #[.string T, .int .i64 0]) (by simp [results, Try.results69, go_sem]) rfl ⟨by rw [HT.out], HF.out⟩
theorem encode_any (w : World) (r : Rec) (v : Value) (hr : RecFits r) (hv : IsInts w v r.nums) :
    Calls Try.prog 69 #[rv r v] w fun e w' => e = .returned (.tuple #[.string (encT r), .int .i64 (encE r)]) ∧ Below w.heap.size w w' := by
  by_cases h1 : r.kind < 1 ∨ 255 < r.kind
  · have e : encE r = 1 := by unfold encE; rw [if_pos h1]
    rw [show encT r = ⟨#[]⟩ by unfold encT; rw [e]; rfl, e]
    exact encode_kind w r v hr hv h1
  · by_cases h2 : 64 < r.who.size ∨ 64 < r.nums.length ∨ 16384 < r.text.size
    · have e : encE r = 41 := by unfold encE; rw [if_neg h1, if_pos h2]
      rw [show encT r = ⟨#[]⟩ by unfold encT; rw [e]; rfl, e]
      exact encode_size w r v hr hv (by omega) h2
    · have e : encE r = 0 := by unfold encE; rw [if_neg h1, if_neg h2]
      rw [show encT r = Bs.str (enc r) by unfold encT; rw [if_pos e], e]
      exact encode_good w r v hr hv ((encE_good hv.1).1 e)
end Go.Proofs.Ytfpifjejooineaa.Rc
