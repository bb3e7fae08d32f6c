/- RcEnc, OMath, RcREnc, RcText, RcGroups. -/
import Derived.Test.YtjldlmonccgopaaGreatPk8
import Derived.Deep.RegionHeld3
/- record: Encode. -/
namespace Go.Proofs.YtjldlmonccgopaaGreat.Rc
open Go.RowKit
set_option linter.unusedVariables false
set_option maxRecDepth 100000
set_option linter.unusedSimpArgs false

theorem encode_kind (w : World) (r : Rec) (v : Value) (hr : RecFits r) (hv : IsInts w v r.nums) (hk : r.kind < 1 ∨ 255 < r.kind) :
    Calls Tryz.prog 74 #[rv r v] w fun e w' => e = .returned (.tuple #[.string ⟨#[]⟩, .int .i64 1]) ∧ Below w.heap.size w w' := by
  obtain ⟨k1, k2⟩ := hr.kind
  unfold rv
  rcases hk with hk | hk
  · go_enter Tryz.func74, Tryz.ntmps74
    go_wp2
    exact bodyPost_ret (v := .tuple #[.string ⟨#[]⟩, .int .i64 1]) (by simp [results, Tryz.results74, go_sem]) rfl ⟨rfl, (Below.refl _ _).alloc (Nat.le_refl _) _⟩
  · have hk1 : ¬ r.kind < 1 := by omega
    go_enter Tryz.func74, Tryz.ntmps74
    go_wp2
    exact bodyPost_ret (v := .tuple #[.string ⟨#[]⟩, .int .i64 1]) (by simp [results, Tryz.results74, go_sem]) rfl ⟨rfl, (Below.refl _ _).alloc (Nat.le_refl _) _⟩
theorem encode_size (w : World) (r : Rec) (v : Value) (hr : RecFits r) (hv : IsInts w v r.nums) (hk : 1 ≤ r.kind ∧ r.kind ≤ 255) (hs : 64 < r.who.size ∨ 64 < r.nums.length ∨ 16384 < r.text.size) :
    Calls Tryz.prog 74 #[rv r v] w fun e w' => e = .returned (.tuple #[.string ⟨#[]⟩, .int .i64 41]) ∧ Below w.heap.size w w' := by
  obtain ⟨k1, k2⟩ := hk
  have hw := hr.who
  have ht := hr.text
  unfold maxLen at hw ht
  obtain ⟨_, a, c, rfl, hn1, hn2, _⟩ := hv
  unfold maxLen at hn2
  unfold rv
  have hk1 : ¬ r.kind < 1 := by omega
  have hk2 : ¬ 255 < r.kind := by omega
  rcases (show 64 < r.who.size ∨ ¬ 64 < r.who.size ∧ 64 < r.nums.length ∨ ¬ 64 < r.who.size ∧ ¬ 64 < r.nums.length ∧ 16384 < r.text.size by omega) with h | ⟨h, h'⟩ | ⟨h, h', h''⟩
  all_goals
    clear hs
    go_enter Tryz.func74, Tryz.ntmps74
    go_wp2
    exact bodyPost_ret (v := .tuple #[.string ⟨#[]⟩, .int .i64 41]) (by simp [results, Tryz.results74, go_sem]) rfl ⟨rfl, (Below.refl _ _).alloc (Nat.le_refl _) _⟩
theorem bytes_at {w : World} {base g cap : Nat} {l : List UInt8} (h : w.ownsRow base 5 1 (.slice (some ⟨g, 0, none⟩) l.length cap) l.length (Lib.byteCells l)) (j : Nat) (hj : j < l.length) : w.cell? ⟨g, j, none⟩ = some (.int .u8 (l[j]'hj).toNat) := by
  have := h.cells (g := g) rfl j (.int .u8 (l[j]'hj).toNat) (by simp [Lib.byteCells, hj])
  rwa [add_off, Nat.zero_add] at this
theorem bytes_form {w : World} {base : Nat} {v : Value} {l : List UInt8} (h : w.ownsRow base 5 1 v l.length (Lib.byteCells l)) (hl : l ≠ []) : ∃ g cap, v = .slice (some ⟨g, 0, none⟩) l.length cap ∧ g < w.heap.size := by
  rcases h.2 with ⟨h1, h2⟩ | ⟨g, cap, cur, hv, hg, hh, r1, r2, _⟩
  · exact absurd (List.eq_nil_of_length_eq_zero h2) hl
  · exact ⟨g, cap, hv, lt_of_block hh⟩
theorem bytes_conv {w : World} {base g cap : Nat} {l : List UInt8} (h : w.ownsRow base 5 1 (.slice (some ⟨g, 0, none⟩) l.length cap) l.length (Lib.byteCells l)) :
    (convert 102 9 (.slice (some ⟨g, 0, none⟩) l.length cap)).run Tryz.prog w = .ok (.string (Bs.str l)) w :=
  run_convert_bytes_back (P := Tryz.prog) w 102 9 5 ⟨g, 0, none⟩ cap l Tryz.underlying102 Tryz.underlying5 Tryz.underlying9 (fun j hj => by
    rw [Addr.add_lit, Nat.zero_add]
    exact bytes_at h j hj)
theorem gs_len : ∀ (L : List Int) (k : Nat), (∀ n ∈ L, I64 n) → L.length ≤ k → (gs L).length ≤ 10 * k
  | [], _, _, _ => by simp [gs]
  | n :: L, 0, _, h => by simp at h
  | n :: L, k + 1, hf, h => by
    have h1 := gs_len L k (fun m hm => hf m (by simp [hm])) (by simpa using h)
    have h2 := grp_len (zz_lt (hf n (by simp)))
    rw [gs, List.length_append]; omega
set_option maxHeartbeats 4000000 in
theorem encode_good (w : World) (r : Rec) (v : Value) (hr : RecFits r) (hv : IsInts w v r.nums) (g : Good r) :
    Calls Tryz.prog 74 #[rv r v] w fun e w' => e = .returned (.tuple #[.string (Bs.str (enc r)), .int .i64 0]) ∧ Below w.heap.size w w' := by
  obtain ⟨k1, k2⟩ := g.kind
  have hw := g.who
  have ht := g.text
  have hn := g.nums
  have HI := hid hv
  obtain ⟨_, a, c, rfl, hn1, hn2, _⟩ := hv
  unfold maxLen at hn2
  unfold rv
  have hk1 : ¬ r.kind < 1 := by omega
  have hk2 : ¬ 255 < r.kind := by omega
  have hw' : ¬ (64 : Int) < (r.who.size : Int) := by omega
  have ht' : ¬ (16384 : Int) < (r.text.size : Int) := by omega
  have hn' : ¬ (64 : Int) < (r.nums.length : Int) := by omega
  have q0 := Box4.new w 81 (.int .i64 r.kind) (.string r.who) (.slice a r.nums.length c) (.string r.text)
  have B0 := (Below.refl w.heap.size w).alloc (Nat.le_refl _) (Obj.cells #[.int .i64 r.kind, .string r.who, .slice a r.nums.length c, .string r.text] 81)
  go_enter Tryz.func74, Tryz.ntmps74
  go_wp2_with fail
  obtain ⟨x, hx⟩ : ∃ x, x = UInt8.ofNat r.kind.toNat := ⟨_, rfl⟩
  have hxn : (x.toNat : Int) = r.kind := by rw [hx, u8n (by omega)]; omega
  have o0 : ((w.alloc (Obj.cells #[.int .i64 r.kind, .string r.who, .slice a r.nums.length c, .string r.text] 81)).alloc (Obj.cells #[.int .u8 r.kind] 5)).ownsRow (w.heap.size + 1) 5 1 (.slice (some ⟨w.heap.size + 1, 0, none⟩) 1 1) [x].length (Lib.byteCells [x]) :=
    ⟨rfl, Or.inr ⟨w.heap.size + 1, 1, #[.int .u8 r.kind], rfl, Nat.le_refl _, by have := heap_alloc_last (w.alloc (Obj.cells #[.int .i64 r.kind, .string r.who, .slice a r.nums.length c, .string r.text] 81)) (Obj.cells #[.int .u8 r.kind] 5); rwa [World.size_alloc] at this, Nat.le_refl _, by unfold maxLen; omega, rfl, by rw [← hxn]; rfl⟩⟩
  have B1 := B0.alloc (by simp) (Obj.cells #[.int .u8 r.kind] 5)
  have q1 := q0.below ((Below.refl (w.heap.size + 1) _).alloc (by simp) (Obj.cells #[.int .u8 r.kind] 5)) (by omega)
  have hsz : w.heap.size + 2 ≤ ((w.alloc (Obj.cells #[.int .i64 r.kind, .string r.who, .slice a r.nums.length c, .string r.text] 81)).alloc (Obj.cells #[.int .u8 r.kind] 5)).heap.size := by simp
  have HX := hid hx
  clear hx hxn q0 B0
  generalize ((w.alloc (Obj.cells #[Value.int .i64 r.kind, .string r.who, .slice a r.nums.length c, .string r.text] 81)).alloc (Obj.cells #[.int .u8 r.kind] 5)) = W at *
  have HC := hid (show ∀ X, Below (w.heap.size + 1) W X → X.cell? ⟨w.heap.size, 2, none⟩ = some (.slice a r.nums.length c) ∧ X.cell? ⟨w.heap.size, 3, none⟩ = some (.string r.text) from fun X h => ⟨(q1.below h (by omega)).c2, (q1.below h (by omega)).c3⟩)
  have HB := hid B1
  clear B1 q1 hr g
  refine (appendText_any W (w.heap.size + 1) _ [x] r.who 1 (by omega) (by omega) (by simp) (by omega) o0).mono ?_
  rintro e w1 ⟨⟨v1, rfl, o1⟩, b1⟩
  clear o0
  obtain ⟨c2, c3⟩ := HC.out w1 b1
  have s1 := b1.size
  have HL : [x] ++ tx 1 (Bs.of r.who) = [x] ++ tx 1 (Bs.of r.who) := rfl
  obtain ⟨L1, hL1⟩ : ∃ L1, L1 = [x] ++ tx 1 (Bs.of r.who) := ⟨_, rfl⟩
  rw [← hL1] at o1
  have hl1 : L1.length ≤ 70 := by rw [hL1]; simp [tx, cnt_len, of_len]; omega
  have HL1 := hid hL1
  clear hL1 HL
  obtain ⟨a1, d1, rfl⟩ := own_slice o1
  go_wp2_with fail
  refine (appendCount_any w1 (w.heap.size + 1) _ L1 r.nums.length 1 (by omega) (by omega) (by omega) (by omega) o1).mono ?_
  rintro e w2 ⟨⟨v2, rfl, o2⟩, b2'⟩
  have b2 := b1.trans b2'
  clear o1 b2' c2 c3
  obtain ⟨c2, c3⟩ := HC.out w2 b2
  have s2 := b2.size
  obtain ⟨L2, hL2⟩ : ∃ L2, L2 = L1 ++ cnt 1 r.nums.length := ⟨_, rfl⟩
  rw [← hL2] at o2
  have hl2 : L2.length ≤ 71 := by rw [hL2, List.length_append, cnt_len]; omega
  have HL2 := hid hL2
  clear hL2
  obtain ⟨a2, d2, rfl⟩ := own_slice o2
  go_wp2
  go_loopw [4, 47] (fun v c wr => ∃ (k : Nat) (L3 : Bs), k ≤ r.nums.length ∧ c = .int .i64 k ∧ Hid (L3 = L2 ++ gs (r.nums.take k)) ∧ wr.ownsRow (w.heap.size + 1) 5 1 v L3.length (Lib.byteCells L3) ∧ Below (w.heap.size + 1) W wr) (fun _ c _ => r.nums.length - (intOf c).toNat)
  case atStart => exact ⟨0, L2, Nat.zero_le _, rfl, by show _ = _; simp [gs], o2, b2⟩
  case round =>
    obtain ⟨k, L3, hk, rfl, HL3, o3, b3⟩ := hrel
    clear o2 c2 c3
    have hl3 : L3.length ≤ 1000 := by
      have hgl : (gs (r.nums.take k)).length ≤ 10 * k := gs_len _ _ (fun n hn => HI.out.1 n (List.mem_of_mem_take hn)) (by simp; omega)
      rw [HL3.out, List.length_append]; omega
    have s3 := b3.size
    obtain ⟨a3, d3, rfl⟩ := own_slice o3
    by_cases hlt : k < r.nums.length
    · have hI := HI.out.below (HB.out.trans (b3.mono (by omega)))
      have hn64 := hI.1 r.nums[k] (List.getElem_mem hlt)
      obtain ⟨_, a', c', he, _, _, h0 | ⟨b, off, hab, hcell⟩⟩ := hI
      · rw [h0] at hlt; simp at hlt
      · simp only [Value.slice.injEq] at he
        obtain ⟨rfl, _, rfl⟩ := he
        subst hab
        have hck := hcell k hlt
        clear hcell
        have HS := hid (show r.nums.take (k + 1) = r.nums.take k ++ [r.nums[k]] by rw [List.take_add_one]; simp [List.getElem?_eq_getElem hlt])
        generalize r.nums[k] = n at *
        go_wp2_with fail
        refine (zigzag_any wr n hn64).mono ?_
        rintro e w' ⟨rfl, rfl⟩
        have hz := zz_lt hn64
        have HZ := hid (show L3 ++ grp (zz n) = L2 ++ gs (r.nums.take (k + 1)) by rw [HS.out, gs_snoc, ← List.append_assoc, ← HL3.out])
        generalize zz n = z at *
        go_wp2_with fail
        refine (appendGroups_any w' (w.heap.size + 1) _ L3 z hz (by omega) (by omega) o3).mono ?_
        rintro e w4 ⟨⟨v4, rfl, o4⟩, b4'⟩
        have b4 := b3.trans b4'
        clear o3 b4'
        obtain ⟨L4, HL4⟩ : ∃ L4, Hid (L4 = L3 ++ grp z) := ⟨_, rfl⟩
        rw [← HL4.out] at o4
        obtain ⟨a4, d4, rfl⟩ := own_slice o4
        go_wp2
        go_roundw
        case rel => exact ⟨k + 1, L4, by omega, by go_num, HL4.out.trans HZ.out, o4, b4⟩
        case measure => simp [intOf]; omega
    · obtain rfl : k = r.nums.length := by omega
      obtain ⟨c2, c3⟩ := HC.out wr b3
      go_wp2_with fail
      refine (appendText_any wr (w.heap.size + 1) _ L3 r.text 2 (by omega) (by omega) (by omega) (by omega) o3).mono ?_
      rintro e w4 ⟨⟨v4, rfl, o4⟩, b4'⟩
      have b4 := b3.trans b4'
      clear o3 b4' c2 c3
      have hE : L3 ++ tx 2 (Bs.of r.text) = enc r := by
        rw [HL3.out, HL2.out, HL1.out, HX.out, enc, List.take_length]
        simp only [List.append_assoc, List.cons_append, List.nil_append]
      rw [hE] at o4
      have hne : enc r ≠ [] := by unfold enc; simp
      obtain ⟨g4, c4, rfl, hg4⟩ := bytes_form o4 hne
      have hcv := bytes_conv o4
      have HF := hid (HB.out.trans (b4.mono (by omega)))
      clear hE hne o4 b4 b3 HL3 HL2 HL1
      obtain ⟨T, HT⟩ : ∃ T, Hid ((enc r).str = T) := ⟨_, rfl⟩
      rw [HT.out] at hcv
      generalize (enc r).length = M at *
      go_wp2
      exact bodyPost_ret (v := .tuple #[.string T, .int .i64 0]) (by simp [results, Tryz.results74, go_sem]) rfl ⟨by rw [HT.out], HF.out⟩
theorem encode_any (w : World) (r : Rec) (v : Value) (hr : RecFits r) (hv : IsInts w v r.nums) :
    Calls Tryz.prog 74 #[rv r v] w fun e w' => e = .returned (.tuple #[.string (encT r), .int .i64 (encE r)]) ∧ Below w.heap.size w w' := by
  by_cases h1 : r.kind < 1 ∨ 255 < r.kind
  · have e : encE r = 1 := by unfold encE; rw [if_pos h1]
    rw [show encT r = ⟨#[]⟩ by unfold encT; rw [e]; rfl, e]
    exact encode_kind w r v hr hv h1
  · by_cases h2 : 64 < r.who.size ∨ 64 < r.nums.length ∨ 16384 < r.text.size
    · have e : encE r = 41 := by unfold encE; rw [if_neg h1, if_pos h2]
      rw [show encT r = ⟨#[]⟩ by unfold encT; rw [e]; rfl, e]
      exact encode_size w r v hr hv (by omega) h2
    · have e : encE r = 0 := by unfold encE; rw [if_neg h1, if_neg h2]
      rw [show encT r = Bs.str (enc r) by unfold encT; rw [if_pos e], e]
      exact encode_good w r v hr hv ((encE_good hv.1).1 e)
end Go.Proofs.YtjldlmonccgopaaGreat.Rc
/- store in plain terms: the bytes of several records, and the first error among them. -/
namespace Go.Proofs.YtjldlmonccgopaaGreat.Rc
set_option linter.unusedVariables false
set_option linter.unusedSimpArgs false

/-- The error of the first record that has one. -/
def allE : List Rec → Int
  | [] => 0
  | r :: L => if encE r = 0 then allE L else encE r
/-- The bytes of all of them, if none has an error. -/
def allT (L : List Rec) : ByteArray := if allE L = 0 then Bs.str (encs L) else ⟨#[]⟩
theorem allE_all : ∀ {L : List Rec}, (∀ r ∈ L, encE r = 0) → allE L = 0
  | [], _ => rfl
  | r :: L, h => by rw [allE, if_pos (h r (by simp))]; exact allE_all fun q hq => h q (by simp [hq])
theorem allE_zero : ∀ {L : List Rec}, allE L = 0 → ∀ r ∈ L, encE r = 0
  | [], _, r, hr => by simp at hr
  | q :: L, h, r, hr => by
    rw [allE] at h
    split at h
    · rcases List.mem_cons.1 hr with rfl | hr
      · assumption
      · exact allE_zero h r hr
    · contradiction
theorem allE_at : ∀ (L : List Rec) (k : Nat) (hk : k < L.length), (∀ i (h : i < k), encE (L[i]'(by omega)) = 0) → encE L[k] ≠ 0 → allE L = encE L[k]
  | [], k, hk, _, _ => by simp at hk
  | r :: L, 0, _, _, h => by simp only [List.getElem_cons_zero] at h ⊢; rw [allE, if_neg h]
  | r :: L, k + 1, hk, h, h' => by
    have h0 := h 0 (by omega)
    simp only [List.getElem_cons_zero] at h0
    rw [allE, if_pos h0]
    simp only [List.getElem_cons_succ] at h' ⊢
    exact allE_at L k (by simpa using hk) (fun i hi => by have := h (i + 1) (by omega); simpa using this) h'
theorem take_good {L : List Rec} {k : Nat} (hk : k ≤ L.length) (h : ∀ i (h : i < k), encE (L[i]'(by omega)) = 0) : ∀ r ∈ L.take k, encE r = 0 := by
  intro r hr
  obtain ⟨i, hi, rfl⟩ := List.mem_iff_getElem.1 hr
  rw [List.length_take] at hi
  rw [List.getElem_take]
  exact h i (by omega)
theorem enc_max {r : Rec} (g : Good r) : (enc r).length ≤ 17200 := by
  have h1 := g.who
  have h2 := g.text
  have h3 := gs_len r.nums 64 g.fit g.nums
  simp only [enc, tx, cnt_len, List.length_cons, List.length_append, of_len]
  omega
theorem encs_max : ∀ {L : List Rec}, (∀ r ∈ L, Good r) → (encs L).length ≤ 17200 * L.length
  | [], _ => by simp [encs]
  | r :: L, h => by
    have h1 := enc_max (h r (by simp))
    have h2 := encs_max fun q (hq : q ∈ L) => h q (by simp [hq])
    simp only [encs, List.length_append, List.length_cons]; omega
theorem encs_take (L : List Rec) (i : Nat) (hi : i < L.length) : encs (L.take (i + 1)) = encs (L.take i) ++ enc L[i] := by
  rw [show L.take (i + 1) = L.take i ++ [L[i]] by rw [List.take_add_one]; simp [List.getElem?_eq_getElem hi], encs_snoc]
theorem Dec.few {s : Bs} {L : List Rec} {n : Nat} (h : Dec s L n) : L.length ≤ n := by
  have : ∀ L : List Rec, L.length ≤ (encs L).length := by
    intro L
    induction L with
    | nil => simp
    | cons r L ih => have := enc_len r; simp only [encs, List.length_append, List.length_cons]; omega
  rw [h.len]; exact this L
end Go.Proofs.YtjldlmonccgopaaGreat.Rc
/- The document's Encode. -/
namespace Go.Proofs.YtjldlmonccgopaaGreat.Rc
open Go.RowKit
set_option linter.unusedVariables false
set_option maxRecDepth 100000
set_option linter.unusedSimpArgs false

theorem xzigzag_any (w : World) (n : Int) (h : I64 n) :
    Calls Tryz.prog 79 #[.int .i64 n] w fun e w' => e = .returned (.int .u64 (zz n : Int)) ∧ w' = w := by
  obtain ⟨h1, h2⟩ := h
  by_cases hn : n < 0
  · obtain ⟨u, hu⟩ : ∃ u : Nat, -(n + 1) = u := ⟨(-(n + 1)).toNat, by omega⟩
    have hz : zz n = u * 2 + 1 := by unfold zz; rw [if_neg (by omega)]; omega
    rw [hz]
    clear hz
    go_enter Tryz.func79, Tryz.ntmps79
    go_wp2
    go_ret
    exact ⟨by simp, rfl⟩
  · obtain ⟨u, rfl⟩ : ∃ u : Nat, n = u := ⟨n.toNat, by omega⟩
    have hz : zz (u : Int) = u * 2 := by unfold zz; rw [if_pos (by omega)]; omega
    rw [hz]
    clear hz h1
    go_enter Tryz.func79, Tryz.ntmps79
    go_wp2
    go_ret
    exact ⟨by simp, rfl⟩
theorem xencode_kind (w : World) (r : Rec) (v : Value) (hr : RecFits r) (hv : IsInts w v r.nums) (hk : r.kind < 1 ∨ 255 < r.kind) :
    Calls Tryz.prog 58 #[rv r v] w fun e w' => e = .returned (.tuple #[.string ⟨#[]⟩, .int .i64 1]) ∧ Below w.heap.size w w' := by
  obtain ⟨k1, k2⟩ := hr.kind
  unfold rv
  rcases hk with hk | hk
  · go_enter Tryz.func58, Tryz.ntmps58
    go_wp2
    exact bodyPost_ret (v := .tuple #[.string ⟨#[]⟩, .int .i64 1]) (by simp [results, Tryz.results58, go_sem]) rfl ⟨rfl, (Below.refl _ _).alloc (Nat.le_refl _) _⟩
  · have hk1 : ¬ r.kind < 1 := by omega
    go_enter Tryz.func58, Tryz.ntmps58
    go_wp2
    exact bodyPost_ret (v := .tuple #[.string ⟨#[]⟩, .int .i64 1]) (by simp [results, Tryz.results58, go_sem]) rfl ⟨rfl, (Below.refl _ _).alloc (Nat.le_refl _) _⟩
theorem xencode_size (w : World) (r : Rec) (v : Value) (hr : RecFits r) (hv : IsInts w v r.nums) (hk : 1 ≤ r.kind ∧ r.kind ≤ 255) (hs : 64 < r.who.size ∨ 64 < r.nums.length ∨ 16384 < r.text.size) :
    Calls Tryz.prog 58 #[rv r v] w fun e w' => e = .returned (.tuple #[.string ⟨#[]⟩, .int .i64 41]) ∧ Below w.heap.size w w' := by
  obtain ⟨k1, k2⟩ := hk
  have hw := hr.who
  have ht := hr.text
  unfold maxLen at hw ht
  obtain ⟨_, a, c, rfl, hn1, hn2, _⟩ := hv
  unfold maxLen at hn2
  unfold rv
  have hk1 : ¬ r.kind < 1 := by omega
  have hk2 : ¬ 255 < r.kind := by omega
  rcases (show 64 < r.who.size ∨ ¬ 64 < r.who.size ∧ 64 < r.nums.length ∨ ¬ 64 < r.who.size ∧ ¬ 64 < r.nums.length ∧ 16384 < r.text.size by omega) with h | ⟨h, h'⟩ | ⟨h, h', h''⟩
  all_goals
    clear hs
    go_enter Tryz.func58, Tryz.ntmps58
    go_wp2
    exact bodyPost_ret (v := .tuple #[.string ⟨#[]⟩, .int .i64 41]) (by simp [results, Tryz.results58, go_sem]) rfl ⟨rfl, (Below.refl _ _).alloc (Nat.le_refl _) _⟩

set_option maxHeartbeats 8000000 in
theorem xencode_good (w : World) (r : Rec) (v : Value) (hr : RecFits r) (hv : IsInts w v r.nums) (g : Good r) :
    Calls Tryz.prog 58 #[rv r v] w fun e w' => e = .returned (.tuple #[.string (Bs.str (enc r)), .int .i64 0]) ∧ Below w.heap.size w w' := by
  obtain ⟨k1, k2⟩ := g.kind
  have hw := g.who
  have ht := g.text
  have hn := g.nums
  have HI := hid hv
  obtain ⟨_, a, c, rfl, hn1, hn2, _⟩ := hv
  unfold maxLen at hn2
  unfold rv
  have hk1 : ¬ r.kind < 1 := by omega
  have hk2 : ¬ 255 < r.kind := by omega
  have hw' : ¬ (64 : Int) < (r.who.size : Int) := by omega
  have ht' : ¬ (16384 : Int) < (r.text.size : Int) := by omega
  have hn' : ¬ (64 : Int) < (r.nums.length : Int) := by omega
  obtain ⟨i0, hi, hz0, hz1, hz2⟩ := info_parts info_u8
  have q0 := Box4.new w 81 (.int .i64 r.kind) (.string r.who) (.slice a r.nums.length c) (.string r.text)
  have B0 := (Below.refl w.heap.size w).alloc (Nat.le_refl _) (Obj.cells #[.int .i64 r.kind, .string r.who, .slice a r.nums.length c, .string r.text] 81)
  obtain ⟨x, hx⟩ : ∃ x, x = UInt8.ofNat r.kind.toNat := ⟨_, rfl⟩
  have hxn : (x.toNat : Int) = r.kind := by rw [hx, u8n (by omega)]; omega
  obtain ⟨y, hy⟩ : ∃ y, y = UInt8.ofNat r.who.size := ⟨_, rfl⟩
  have hyn : (y.toNat : Int) = r.who.size := by rw [hy, u8n (by omega)]
  have o0 : ((w.alloc (Obj.cells #[.int .i64 r.kind, .string r.who, .slice a r.nums.length c, .string r.text] 81)).alloc (Obj.cells #[.int .u8 r.kind, .int .u8 (r.who.size : Int)] 5)).ownsRow (w.heap.size + 1) 5 1 (.slice (some ⟨w.heap.size + 1, 0, none⟩) 2 2) 2 (Lib.byteCells [x, y]) :=
    ⟨rfl, Or.inr ⟨w.heap.size + 1, 2, #[.int .u8 r.kind, .int .u8 (r.who.size : Int)], rfl, Nat.le_refl _, by have := heap_alloc_last (w.alloc (Obj.cells #[.int .i64 r.kind, .string r.who, .slice a r.nums.length c, .string r.text] 81)) (Obj.cells #[.int .u8 r.kind, .int .u8 (r.who.size : Int)] 5); rwa [World.size_alloc] at this, Nat.le_refl _, by unfold maxLen; omega, rfl, by rw [← hxn, ← hyn]; rfl⟩⟩
  have B1 := B0.alloc (by simp) (Obj.cells #[.int .u8 r.kind, .int .u8 (r.who.size : Int)] 5)
  have q1 := q0.below ((Below.refl (w.heap.size + 1) _).alloc (by simp) (Obj.cells #[.int .u8 r.kind, .int .u8 (r.who.size : Int)] 5)) (by omega)
  have HX := hid (And.intro hx hy)
  clear hx hxn hy hyn q0 B0
  go_enter Tryz.func58, Tryz.ntmps58
  go_wp2_with (at_builtin; refine Lib.wpList_append_own_string _ rfl _ _ 102 9 rfl (w.heap.size + 1) 5 i0 Tryz.underlying102 Tryz.underlying9 hi hz0 hz1 hz2 _ _ _ rfl o0 r.who rfl (by unfold maxLen; omega) (by omega) (by simp) ?_)
  intro v1 w1 o1' g1 _
  have b1 : Below (w.heap.size + 1) ((w.alloc (Obj.cells #[.int .i64 r.kind, .string r.who, .slice a r.nums.length c, .string r.text] 81)).alloc (Obj.cells #[.int .u8 r.kind, .int .u8 (r.who.size : Int)] 5)) w1 := (Below.refl _ _).grown g1 (by simp) (fun q hq => (o0.lt q hq).1)
  have hsz : w.heap.size + 2 ≤ ((w.alloc (Obj.cells #[.int .i64 r.kind, .string r.who, .slice a r.nums.length c, .string r.text] 81)).alloc (Obj.cells #[.int .u8 r.kind, .int .u8 (r.who.size : Int)] 5)).heap.size := by simp
  clear g1 o0
  generalize ((w.alloc (Obj.cells #[Value.int .i64 r.kind, .string r.who, .slice a r.nums.length c, .string r.text] 81)).alloc (Obj.cells #[.int .u8 r.kind, .int .u8 (r.who.size : Int)] 5)) = W at *
  have HC := hid (show ∀ X, Below (w.heap.size + 1) W X → X.cell? ⟨w.heap.size, 2, none⟩ = some (.slice a r.nums.length c) ∧ X.cell? ⟨w.heap.size, 3, none⟩ = some (.string r.text) from fun X h => ⟨(q1.below h (by omega)).c2, (q1.below h (by omega)).c3⟩)
  have HB := hid B1
  clear B1 q1 hr g
  obtain ⟨L1, HL1⟩ : ∃ L1, Hid (L1 = [x] ++ tx 1 (Bs.of r.who)) := ⟨_, rfl⟩
  have o1 : w1.ownsRow (w.heap.size + 1) 5 1 v1 L1.length (Lib.byteCells L1) := by
    have e : L1 = [x, y] ++ Bs.of r.who := by rw [HL1.out, tx, cnt1, of_len, HX.out.2]; rfl
    rw [e, Lib.byteCells_append, List.length_append, of_len]
    exact o1'
  have hl1 : L1.length ≤ 70 := by rw [HL1.out]; simp [tx, cnt_len, of_len]; omega
  clear o1'
  obtain ⟨c2, c3⟩ := HC.out w1 b1
  have s1 := b1.size
  obtain ⟨m1, hm1⟩ : ∃ m, L1.length = m := ⟨_, rfl⟩
  rw [hm1] at o1 hl1
  have HM1 := hid hm1
  clear hm1
  go_wp2_with (at_builtin; refine wpList_append_own _ rfl _ _ 102 rfl (w.heap.size + 1) 5 i0 (.int .u8 0) 1 1 Tryz.underlying102 hi hz0 hz1 hz2 rfl (by decide) _ _ _ rfl (o1.alloc _) ⟨w1.heap.size, 0, none⟩ 1 1 [.int .u8 ((r.nums.length : Int))] rfl rfl (by intro j u hu; match j, hu with | 0, hu => simp at hu; subst hu; simp [Addr.add]) (by intro u hu; simp at hu; subst hu; rfl) (by unfold maxLen; omega) (by omega) (by simp; omega) ?_)
  intro v2 w2 o2' g2 _
  have b2 : Below (w.heap.size + 1) W w2 := (b1.alloc (by omega) _).grown g2 (by simp; omega) (fun q hq => (o1.lt q hq).1)
  obtain ⟨L2, HL2⟩ : ∃ L2, Hid (L2 = L1 ++ cnt 1 r.nums.length) := ⟨_, rfl⟩
  have o2 : w2.ownsRow (w.heap.size + 1) 5 1 v2 L2.length (Lib.byteCells L2) := by
    rw [HL2.out, Lib.byteCells_append, List.length_append, cnt1, HM1.out, show Lib.byteCells [UInt8.ofNat r.nums.length] = [.int .u8 (r.nums.length : Int)] by simp only [Lib.byteCells, List.map]; rw [u8n (by omega)]]
    exact o2'
  have hl2 : L2.length ≤ 71 := by rw [HL2.out, List.length_append, cnt_len, HM1.out]; omega
  clear o2' g2 o1 c2 c3
  go_wp2
  go_loopw [4, 5] (fun v c wr => ∃ (k : Nat) (L3 : Bs), k ≤ r.nums.length ∧ c = .int .i64 k ∧ Hid (L3 = L2 ++ gs (r.nums.take k)) ∧ wr.ownsRow (w.heap.size + 1) 5 1 v L3.length (Lib.byteCells L3) ∧ Below (w.heap.size + 1) W wr) (fun _ c _ => r.nums.length - (intOf c).toNat)
  case atStart => exact ⟨0, L2, Nat.zero_le _, rfl, by show _ = _; simp [gs], o2, b2⟩
  case round =>
    obtain ⟨k, L3, hk, rfl, HL3, o3, b3⟩ := hrel
    clear o2
    have hl3 : L3.length ≤ 1000 := by
      have hgl : (gs (r.nums.take k)).length ≤ 10 * k := gs_len _ _ (fun n hn => HI.out.1 n (List.mem_of_mem_take hn)) (by simp; omega)
      rw [HL3.out, List.length_append]; omega
    have s3 := b3.size
    obtain ⟨c2, c3⟩ := HC.out wr b3
    by_cases hlt : k < r.nums.length
    · have hI := HI.out.below (HB.out.trans (b3.mono (by omega)))
      have hn64 := hI.1 r.nums[k] (List.getElem_mem hlt)
      obtain ⟨_, a', c', he, _, _, h0 | ⟨b, off, hab, hcell⟩⟩ := hI
      · rw [h0] at hlt; simp at hlt
      · simp only [Value.slice.injEq] at he
        obtain ⟨rfl, _, rfl⟩ := he
        subst hab
        have hck := hcell k hlt
        clear hcell
        have HS := hid (show r.nums.take (k + 1) = r.nums.take k ++ [r.nums[k]] by rw [List.take_add_one]; simp [List.getElem?_eq_getElem hlt])
        generalize r.nums[k] = n at *
        go_wp2_with fail
        refine (xzigzag_any wr n hn64).mono ?_
        rintro e w' ⟨rfl, rfl⟩
        have hz := zz_lt hn64
        have hgz := grp_len hz
        have HZ := hid (show L3 ++ grp (zz n) = L2 ++ gs (r.nums.take (k + 1)) by rw [HS.out, gs_snoc, ← List.append_assoc, ← HL3.out])
        have HG := hid hgz
        clear hgz hck c2 c3
        generalize zz n = z at *
        go_wp2
        go_loopw [4, 6] (fun v c wr => ∃ (m : Bs) (y : Nat), c = .int .u64 (y : Int) ∧ y < 18446744073709551616 ∧ Hid (m ++ grp y = L3 ++ grp z) ∧ wr.ownsRow (w.heap.size + 1) 5 1 v m.length (Lib.byteCells m) ∧ Below (w.heap.size + 1) W wr) (fun _ c _ => (intOf c).toNat)
        case atStart => exact ⟨L3, z, rfl, hz, rfl, o3, b3⟩
        case round =>
          obtain ⟨m, y, rfl, hy, HM, o4, b4⟩ := hrel
          clear o3 b3
          have s4 := b4.size
          have hml : m.length ≤ 2000 := by
            have h1 := congrArg List.length HM.out
            simp only [List.length_append] at h1
            have := HG.out
            omega
          obtain ⟨mm, hmm⟩ : ∃ mm, m.length = mm := ⟨_, rfl⟩
          rw [hmm] at o4 hml
          have HMM := hid hmm
          clear hmm
          by_cases hge : 128 ≤ y
          · obtain ⟨x2, hx2⟩ : ∃ x2, x2 = UInt8.ofNat (y % 128 + 128) := ⟨_, rfl⟩
            have HG2 := hid (show m ++ [x2] ++ grp (y / 128) = L3 ++ grp z by rw [← HM.out, grp_ge hge, hx2, List.append_assoc]; rfl)
            have HXN := hid (show (x2.toNat : Int) = (y : Int) % 128 + 128 by rw [hx2, u8n (by omega)]; simp)
            clear hx2
            go_wp2_with (at_builtin; refine wpList_append_own _ rfl _ _ 102 rfl (w.heap.size + 1) 5 i0 (.int .u8 0) 1 1 Tryz.underlying102 hi hz0 hz1 hz2 rfl (by decide) _ _ _ rfl (o4.alloc _) ⟨wr.heap.size, 0, none⟩ 1 1 [.int .u8 ((y : Int) % 128 + 128)] rfl rfl (by intro j u hu; match j, hu with | 0, hu => simp at hu; subst hu; simp [Addr.add]) (by intro u hu; simp at hu; subst hu; rfl) (by unfold maxLen; omega) (by omega) (by simp; omega) ?_)
            intro v5 w5 o5' g5 _
            have b5 : Below (w.heap.size + 1) W w5 := (b4.alloc (by omega) _).grown g5 (by simp; omega) (fun q hq => (o4.lt q hq).1)
            have o5 : w5.ownsRow (w.heap.size + 1) 5 1 v5 (m ++ [x2]).length (Lib.byteCells (m ++ [x2])) := by
              rw [List.length_append, HMM.out, Lib.byteCells_append]
              rw [← HXN.out] at o5'
              exact o5'
            clear o5' g5 o4 b4
            go_wp2
            go_roundw
            case rel => exact ⟨m ++ [x2], y / 128, by go_num, by omega, HG2.out, o5, b5⟩
            case measure => simp [intOf]; omega
          · obtain ⟨x2, hx2⟩ : ∃ x2, x2 = UInt8.ofNat y := ⟨_, rfl⟩
            have HG2 := hid (show m ++ [x2] = L2 ++ gs (r.nums.take (k + 1)) by rw [← HZ.out, ← HM.out, grp_lt (by omega), hx2])
            have HXN := hid (show (x2.toNat : Int) = (y : Int) by rw [hx2, u8n (by omega)])
            clear hx2
            go_wp2_with (at_builtin; refine wpList_append_own _ rfl _ _ 102 rfl (w.heap.size + 1) 5 i0 (.int .u8 0) 1 1 Tryz.underlying102 hi hz0 hz1 hz2 rfl (by decide) _ _ _ rfl (o4.alloc _) ⟨wr.heap.size, 0, none⟩ 1 1 [.int .u8 ((y : Int))] rfl rfl (by intro j u hu; match j, hu with | 0, hu => simp at hu; subst hu; simp [Addr.add]) (by intro u hu; simp at hu; subst hu; rfl) (by unfold maxLen; omega) (by omega) (by simp; omega) ?_)
            intro v5 w5 o5' g5 _
            have b5 : Below (w.heap.size + 1) W w5 := (b4.alloc (by omega) _).grown g5 (by simp; omega) (fun q hq => (o4.lt q hq).1)
            have o5 : w5.ownsRow (w.heap.size + 1) 5 1 v5 (m ++ [x2]).length (Lib.byteCells (m ++ [x2])) := by
              rw [List.length_append, HMM.out, Lib.byteCells_append]
              rw [← HXN.out] at o5'
              exact o5'
            clear o5' g5 o4 b4
            go_wp2
            go_roundw
            case rel => exact ⟨k + 1, m ++ [x2], by omega, by go_num, HG2.out, o5, b5⟩
            case measure => simp [intOf]; omega
    · obtain rfl : k = r.nums.length := by omega
      obtain ⟨mm, hmm⟩ : ∃ mm, L3.length = mm := ⟨_, rfl⟩
      rw [hmm] at o3 hl3
      have HMM := hid hmm
      clear hmm
      have ht5 : (r.text.size : Int) / 256 < 256 := by omega
      go_wp2_with (first | (at_builtin; refine wpList_append_own _ rfl _ _ 102 rfl (w.heap.size + 1) 5 i0 (.int .u8 0) 1 1 Tryz.underlying102 hi hz0 hz1 hz2 rfl (by decide) _ _ _ rfl (o3.alloc _) ⟨wr.heap.size, 0, none⟩ 2 2 [.int .u8 ((r.text.size : Int) / 256), .int .u8 ((r.text.size : Int) % 256)] rfl rfl (by intro j u hu; match j, hu with | 0, hu => (simp at hu; subst hu; simp [Addr.add]) | 1, hu => (simp at hu; subst hu; simp [Addr.add])) (by intro u hu; simp at hu; rcases hu with rfl | rfl <;> rfl) (by unfold maxLen; omega) (by omega) (by simp; omega) ?_))
      intro v4 w4 o4' g4 _
      have b4 : Below (w.heap.size + 1) W w4 := (b3.alloc (by omega) _).grown g4 (by simp; omega) (fun q hq => (o3.lt q hq).1)
      obtain ⟨L4, HL4⟩ : ∃ L4, Hid (L4 = L3 ++ cnt 2 r.text.size) := ⟨_, rfl⟩
      have o4 : w4.ownsRow (w.heap.size + 1) 5 1 v4 (mm + 2) (Lib.byteCells L4) := by
        rw [HL4.out, Lib.byteCells_append, cnt2, show Lib.byteCells [UInt8.ofNat (r.text.size / 256), UInt8.ofNat r.text.size] = [.int .u8 ((r.text.size : Int) / 256), .int .u8 ((r.text.size : Int) % 256)] by
          simp only [Lib.byteCells, List.map]
          rw [u8n (by omega), UInt8.toNat_ofNat']
          simp]
        exact o4'
      clear o4' g4 o3 c2 c3
      obtain ⟨c2, c3⟩ := HC.out w4 b4
      have s4 := b4.size
      obtain ⟨sa4, sc4, rfl⟩ := own_slice o4
      go_wp2_with (at_builtin; refine Lib.wpList_append_own_string _ rfl _ _ 102 9 rfl (w.heap.size + 1) 5 i0 Tryz.underlying102 Tryz.underlying9 hi hz0 hz1 hz2 _ _ _ rfl o4 r.text rfl (by unfold maxLen; omega) (by omega) (by omega) ?_)
      intro v5 w5 o5' g5 _
      have b5 : Below (w.heap.size + 1) W w5 := b4.grown g5 (by omega) (fun q hq => (o4.lt q hq).1)
      have hE : L4 ++ Bs.of r.text = enc r := by
        rw [HL4.out, HL3.out, HL2.out, HL1.out, HX.out.1, enc, List.take_length]
        simp only [tx, of_len, List.append_assoc, List.cons_append, List.nil_append]
      have o5 : w5.ownsRow (w.heap.size + 1) 5 1 v5 (enc r).length (Lib.byteCells (enc r)) := by
        have e : (enc r).length = mm + 2 + r.text.size := by rw [← hE, List.length_append, HL4.out, List.length_append, cnt_len, HMM.out, of_len]
        rw [e, ← hE, Lib.byteCells_append]
        exact o5'
      have hne : enc r ≠ [] := by unfold enc; simp
      obtain ⟨g6, c6, rfl, hg6⟩ := bytes_form o5 hne
      have hcv := bytes_conv o5
      have HF := hid (HB.out.trans (b5.mono (by omega)))
      clear hE hne o5 b5 b3 HL3 HL2 HL1 o5' g5
      obtain ⟨T, HT⟩ : ∃ T, Hid ((enc r).str = T) := ⟨_, rfl⟩
      rw [HT.out] at hcv
      generalize (enc r).length = M at *
      go_wp2
      exact bodyPost_ret (v := .tuple #[.string T, .int .i64 0]) (by simp [results, Tryz.results58, go_sem]) rfl ⟨by rw [HT.out], HF.out⟩
theorem xencode_any (w : World) (r : Rec) (v : Value) (hr : RecFits r) (hv : IsInts w v r.nums) :
    Calls Tryz.prog 58 #[rv r v] w fun e w' => e = .returned (.tuple #[.string (encT r), .int .i64 (encE r)]) ∧ Below w.heap.size w w' := by
  by_cases h1 : r.kind < 1 ∨ 255 < r.kind
  · have e : encE r = 1 := by unfold encE; rw [if_pos h1]
    rw [show encT r = ⟨#[]⟩ by unfold encT; rw [e]; rfl, e]
    exact xencode_kind w r v hr hv h1
  · by_cases h2 : 64 < r.who.size ∨ 64 < r.nums.length ∨ 16384 < r.text.size
    · have e : encE r = 41 := by unfold encE; rw [if_neg h1, if_pos h2]
      rw [show encT r = ⟨#[]⟩ by unfold encT; rw [e]; rfl, e]
      exact xencode_size w r v hr hv (by omega) h2
    · have e : encE r = 0 := by unfold encE; rw [if_neg h1, if_neg h2]
      rw [show encT r = Bs.str (enc r) by unfold encT; rw [if_pos e], e]
      exact xencode_good w r v hr hv ((encE_good hv.1).1 e)
end Go.Proofs.YtjldlmonccgopaaGreat.Rc
/- record: takeText, takeGroups, unzigzag, takeNums. -/
namespace Go.Proofs.YtjldlmonccgopaaGreat.Rc
open Go.RowKit
set_option linter.unusedVariables false
set_option maxRecDepth 100000
set_option linter.unusedSimpArgs false

theorem cnt_bev (s : ByteArray) (k K : Nat) (hK : 1 ≤ K ∧ K ≤ 2) (h : k + K ≤ s.size) : (Bs.of s).drop k = cnt K (bev s k K) ++ (Bs.of s).drop (k + K) := by
  rcases (show K = 1 ∨ K = 2 by omega) with rfl | rfl
  · obtain ⟨x, hx, e⟩ := drop_at s k (by omega)
    rw [e, cnt1]
    simp only [bev, Nat.zero_mul, Nat.zero_add, Nat.add_zero]
    rw [← hx, u8_of]; rfl
  · obtain ⟨x, hx, e⟩ := drop_at s k (by omega)
    obtain ⟨y, hy, e'⟩ := drop_at s (k + 1) (by omega)
    have h1 := UInt8.toNat_lt x
    have h2 := UInt8.toNat_lt y
    rw [e, e', cnt2]
    simp only [bev, Nat.zero_mul, Nat.zero_add, Nat.add_zero]
    rw [← hx, ← hy, show (x.toNat * 256 + y.toNat) / 256 = x.toNat by omega, u8_of]
    rw [show UInt8.ofNat (x.toNat * 256 + y.toNat) = y from by
      apply UInt8.toNat.inj
      rw [UInt8.toNat_ofNat']; omega]
    rfl
theorem cnt_inj {K a b : Nat} (hK : 1 ≤ K ∧ K ≤ 2) (ha : a < 256 ^ K) (hb : b < 256 ^ K) (h : cnt K a = cnt K b) : a = b := by
  rcases (show K = 1 ∨ K = 2 by omega) with rfl | rfl
  · rw [cnt1, cnt1] at h
    simp only [List.cons.injEq, and_true] at h
    exact u8_inj (by simpa using ha) (by simpa using hb) h
  · rw [cnt2, cnt2] at h
    simp only [List.cons.injEq, and_true] at h
    have e1 := u8_inj (by simp at ha; omega) (by simp at hb; omega) h.1
    have e2 : a % 256 = b % 256 := by
      have := congrArg UInt8.toNat h.2
      simpa [UInt8.toNat_ofNat'] using this
    omega
/-- What stands ahead is a count. -/
theorem cnt_ahead {s : ByteArray} {k K n : Nat} {a : Bs} (hK : 1 ≤ K ∧ K ≤ 2) (hn : n < 256 ^ K) (h : (Bs.of s).drop k = cnt K n ++ a) (hk : k ≤ s.size) : k + K ≤ s.size ∧ bev s k K = n ∧ (Bs.of s).drop (k + K) = a := by
  have hl := congrArg List.length h
  rw [List.length_drop, of_len, List.length_append, cnt_len] at hl
  have hkk : k + K ≤ s.size := by omega
  have e := cnt_bev s k K hK hkk
  rw [h] at e
  obtain ⟨e1, e2⟩ := List.append_inj e (by rw [cnt_len, cnt_len])
  exact ⟨hkk, (cnt_inj hK hn (bev_lt s k K) e1).symm, e2.symm⟩
theorem conv_nil (w : World) : (convert 102 9 (.slice none 0 0)).run Tryz.prog w = .ok (.string ⟨#[]⟩) w := by
  simp [convert, Tryz.underlying102, Tryz.underlying5, Tryz.underlying9, go_sem]
  rfl
set_option maxHeartbeats 4000000 in
theorem takeText_any (w : World) (p q : Nat) (s : ByteArray) (k K most : Nat) (hK : 1 ≤ K ∧ K ≤ 2) (hm : most ≤ 100000) (hmK : most < 256 ^ K) (h : Tk w p q s k) :
    Calls Tryz.prog 67 #[.func (.func 52) #[] #[.pointer (some ⟨p, 0, none⟩), .pointer (some ⟨q, 0, none⟩)], .int .i64 (K : Int), .int .i64 (most : Int)] w fun e w' => Fr p w w' ∧ ∃ k', Tk w' p q s k' ∧
      ((∃ t : ByteArray, t.size ≤ most ∧ (Bs.of s).drop k = tx K (Bs.of t) ++ (Bs.of s).drop k' ∧ e = .returned (.tuple #[.string t, .bool true])) ∨ ((∀ (t a : Bs), t.length ≤ most → (Bs.of s).drop k ≠ tx K t ++ a) ∧ e = .returned (.tuple #[.string ⟨#[]⟩, .bool false]))) := by
  have hsz := h.sz
  have hkl := h.le
  obtain ⟨i0, hi, hz0, hz1, hz2⟩ := info_parts info_u8
  have hpl := h.pl
  go_enter Tryz.func67, Tryz.ntmps67
  go_wp2_with fail
  refine (takeCount_any w p q s k K most hK.2 (by omega) h).mono ?_
  rintro e w1 ⟨F1, ⟨hl, rfl, T1⟩ | ⟨hl, rfl, T1⟩⟩
  · by_cases hn : bev s k K ≤ most
    · have e1 : decide (bev s k K ≤ most) = true := decide_eq_true hn
      have HN := hid (cnt_bev s k K hK hl)
      rw [e1]
      have s1 := F1.size
      have hB : bev s k K ≤ 100000 := by omega
      have HK := hid (show ∀ (t a : Bs), t.length ≤ most → (Bs.of s).drop k = tx K t ++ a → t.length = bev s k K ∧ (Bs.of s).drop (k + K) = t ++ a from fun t a ht e => by
        rw [tx, List.append_assoc] at e
        obtain ⟨_, h1, h2⟩ := cnt_ahead hK (by omega) e hkl
        exact ⟨h1.symm, h2⟩)
      clear e1
      generalize bev s k K = n at *
      go_wp2
      go_loopw [10, 23] (fun v c wr => ∃ (j : Nat) (L : Bs), j ≤ n ∧ c = .int .i64 j ∧ Hid ((Bs.of s).drop (k + K) = L ++ (Bs.of s).drop (k + K + j)) ∧ L.length = j ∧ (L = [] → v = .slice none 0 0) ∧ wr.ownsRow w.heap.size 5 1 v L.length (Lib.byteCells L) ∧ Tk wr p q s (k + K + j) ∧ Fr p w wr) (fun _ c _ => n - (intOf c).toNat)
      case atStart => exact ⟨0, [], Nat.zero_le _, rfl, rfl, rfl, fun _ => rfl, World.ownsRow_nil _ _ _ _, T1, F1⟩
      case round =>
        obtain ⟨j, L, hj, rfl, HL, hLj, hnil, o, T, F⟩ := hrel
        clear T1 F1
        have s2 := F.size
        have HNil := hid hnil
        have HLj := hid hLj
        clear hnil
        by_cases hlt : j < n
        · by_cases hk : k + K + j < s.size
          · obtain ⟨x, hx, ed⟩ := drop_at s (k + K + j) hk
            have HD := hid (show (Bs.of s).drop (k + K) = (L ++ [x]) ++ (Bs.of s).drop (k + K + (j + 1)) by rw [HL.out, ed, List.append_assoc]; rfl)
            have ht := take_next wr p q s (k + K + j) hk T
            rw [← hx] at ht
            have hxl := UInt8.toNat_lt x
            clear hx ed
            rw [hLj] at o
            clear hLj
            go_wp2_with fail
            refine ht.mono ?_
            rintro e w2 ⟨rfl, T2, F2'⟩
            have F2 := F.trans F2'
            have o2 := F2'.own o (by omega)
            have s3 := F2.size
            clear T F ht F2' o
            go_wp2_with (at_builtin; refine wpList_append_own _ rfl _ _ 102 rfl w.heap.size 5 i0 (.int .u8 0) 1 1 Tryz.underlying102 hi hz0 hz1 hz2 rfl (by decide) _ _ _ rfl (o2.alloc _) ⟨w2.heap.size, 0, none⟩ 1 1 [.int .u8 (x.toNat : Int)] rfl rfl (by intro j u hu; match j, hu with | 0, hu => simp at hu; subst hu; simp [Addr.add]) (by intro u hu; simp at hu; subst hu; rfl) (by unfold maxLen; omega) (by omega) (by simp; omega) ?_)
            intro v' w3 o3 hgrow _
            have F3 : Fr p w w3 := (F2.alloc (by omega) _).grown hgrow hpl (fun g hg => (o2.lt g hg).1)
            have T3 : Tk w3 p q s (k + K + j + 1) := (T2.keep ((Below.refl _ _).alloc (Nat.le_refl _) _)).grown hgrow hpl (fun g hg => (o2.lt g hg).1)
            have o4 : w3.ownsRow w.heap.size 5 1 v' (L ++ [x]).length (Lib.byteCells (L ++ [x])) := by
              rw [List.length_append, HLj.out, Lib.byteCells_append]
              exact o3
            clear o3 hgrow o2 T2 F2
            go_wp2
            go_roundw
            case rel => exact ⟨j + 1, L ++ [x], by omega, by go_num, HD.out, by rw [List.length_append, HLj.out]; rfl, fun h => by simp at h, o4, T3, F3⟩
            case measure => simp [intOf]; omega
          · have hk' : k + K + j = s.size := by have := T.le; omega
            have HNo := hid (show ∀ (t a : Bs), t.length ≤ most → (Bs.of s).drop k ≠ tx K t ++ a from fun t a ht e => by
              obtain ⟨h1, h2⟩ := HK.out t a ht e
              have h3 := congrArg List.length h2
              rw [HL.out, List.length_append, List.length_append, List.length_drop, of_len, HLj.out] at h3
              omega)
            rw [hk'] at T
            have ht := take_end wr p q s T
            clear hk' hk HK
            go_wp2_with fail
            refine ht.mono ?_
            rintro e w2 ⟨rfl, rfl⟩
            go_wp2
            exact bodyPost_ret (v := .tuple #[.string ⟨#[]⟩, .bool false]) (by simp [results, Tryz.results67, go_sem]) rfl ⟨F, _, T, Or.inr ⟨HNo.out, rfl⟩⟩
        · obtain rfl : j = n := by omega
          have HR := hid (show (Bs.str L).size ≤ most ∧ (Bs.of s).drop k = tx K (Bs.of (Bs.str L)) ++ (Bs.of s).drop (k + K + j) from by
            rw [str_size, HLj.out]
            refine ⟨hn, ?_⟩
            rw [HN.out, HL.out, of_str, tx, HLj.out, List.append_assoc])
          have hcv : (convert 102 9 u10).run Tryz.prog wr = .ok (.string (Bs.str L)) wr := by
            by_cases h0 : L = []
            · rw [HNil.out h0, h0]; exact conv_nil wr
            · obtain ⟨g4, c4, e4, _⟩ := bytes_form o h0
              rw [e4] at o ⊢
              exact bytes_conv o
          clear HK HN HL HNil o
          generalize Bs.str L = t at *
          go_wp2
          exact bodyPost_ret (v := .tuple #[.string t, .bool true]) (by simp [results, Tryz.results67, go_sem]) rfl ⟨F, _, T, Or.inl ⟨t, HR.out.1, HR.out.2, rfl⟩⟩
    · have e1 : decide (bev s k K ≤ most) = false := decide_eq_false hn
      rw [e1]
      have HNo := hid (show ∀ (t a : Bs), t.length ≤ most → (Bs.of s).drop k ≠ tx K t ++ a from fun t a ht e => by
        rw [tx, List.append_assoc] at e
        obtain ⟨_, h1, h2⟩ := cnt_ahead hK (by omega) e hkl
        omega)
      have hB := bev_lt s k K
      have hB2 : bev s k K < 65536 := Nat.lt_of_lt_of_le hB (Nat.pow_le_pow_right (n := 256) (by omega) hK.2)
      clear e1 hB
      generalize bev s k K = n at *
      go_wp2
      exact bodyPost_ret (v := .tuple #[.string ⟨#[]⟩, .bool false]) (by simp [results, Tryz.results67, go_sem]) rfl ⟨F1, _, T1, Or.inr ⟨HNo.out, rfl⟩⟩
  · have HNo := hid (show ∀ (t a : Bs), t.length ≤ most → (Bs.of s).drop k ≠ tx K t ++ a from fun t a ht e => by
      rw [tx, List.append_assoc] at e
      obtain ⟨h0, h1, h2⟩ := cnt_ahead hK (by omega) e hkl
      omega)
    go_wp2
    exact bodyPost_ret (v := .tuple #[.string ⟨#[]⟩, .bool false]) (by simp [results, Tryz.results67, go_sem]) rfl ⟨F1, _, T1, Or.inr ⟨HNo.out, rfl⟩⟩
end Go.Proofs.YtjldlmonccgopaaGreat.Rc
/- record: takeGroups, unzigzag. -/
namespace Go.Proofs.YtjldlmonccgopaaGreat.Rc
open Go.RowKit
set_option linter.unusedVariables false
set_option maxRecDepth 100000
set_option linter.unusedSimpArgs false

theorem unzigzag_any (w : World) (z : Nat) (h : z < 18446744073709551616) :
    Calls Tryz.prog 88 #[.int .u64 (z : Int)] w fun e w' => e = .returned (.int .i64 (unz z)) ∧ w' = w := by
  have ha := and1 z h
  rcases (show z % 2 = 0 ∨ z % 2 = 1 by omega) with hz | hz
  · have hu : unz z = ((z / 2 : Nat) : Int) := by unfold unz; rw [if_pos hz]
    rw [hu]
    rw [hz] at ha
    have hc : ((z / 2 : Nat) : Int) = (z : Int) / 2 := by simp
    rw [hc]
    clear hu hc hz
    go_enter Tryz.func88, Tryz.ntmps88
    go_wp2
    go_ret
    exact ⟨by simp, rfl⟩
  · have hu : unz z = -1 - ((z / 2 : Nat) : Int) := by unfold unz; rw [if_neg (by omega)]; omega
    have hx := i64_not (z / 2) (by omega)
    rw [hu, ← hx]
    rw [hz] at ha
    have hc : ((z / 2 : Nat) : Int) = (z : Int) / 2 := by simp
    rw [hc]
    rw [hc] at hx
    clear hu hc hz hx
    go_enter Tryz.func88, Tryz.ntmps88
    go_wp2
    go_ret
    exact ⟨by simp, rfl⟩
theorem wrap_nat (x : Nat) : IntKind.u64.wrap (x : Int) = ((x % 18446744073709551616 : Nat) : Int) := by
  simp [IntKind.wrap, IntKind.signed, IntKind.bits]
theorem pow_int (a b : Nat) : ((a : Int) * 2 ^ b) = ((a * 2 ^ b : Nat) : Int) := by simp
theorem div_int (a b : Nat) : (a : Int) / 2 ^ b = ((a / 2 ^ b : Nat) : Int) := by simp
theorem shl_fit (c sh : Nat) (h : c % 128 * 2 ^ sh < 18446744073709551616) : IntKind.u64.wrap ((c : Int) % 128 * 2 ^ min sh 64) = ((c % 128 * 2 ^ sh : Nat) : Int) ∧ ((c % 128 * 2 ^ sh : Nat) : Int) / 2 ^ min sh 64 = (c : Int) % 128 := by
  have e : (c : Int) % 128 = ((c % 128 : Nat) : Int) := by simp
  rw [e, pow_int, wrap_nat, div_int]
  generalize c % 128 = g at *
  by_cases hg : g = 0
  · subst hg; simp
  · have hs : sh < 64 := by
      refine Classical.byContradiction fun hs => ?_
      have h1 : 2 ^ 64 ≤ 2 ^ sh := Nat.pow_le_pow_right (by omega) (by omega)
      have h2 : 2 ^ sh ≤ g * 2 ^ sh := Nat.le_mul_of_pos_left _ (by omega)
      omega
    rw [show min sh 64 = sh by omega, Nat.mod_eq_of_lt h, Nat.mul_div_cancel _ (Nat.pow_pos (by omega))]
    exact ⟨rfl, rfl⟩
theorem shl_not (c sh : Nat) (h : ¬ c % 128 * 2 ^ sh < 18446744073709551616) : ∃ G : Nat, IntKind.u64.wrap ((c : Int) % 128 * 2 ^ min sh 64) = (G : Int) ∧ ¬ (G : Int) / 2 ^ min sh 64 = (c : Int) % 128 := by
  have e : (c : Int) % 128 = ((c % 128 : Nat) : Int) := by simp
  refine ⟨c % 128 * 2 ^ min sh 64 % 18446744073709551616, by rw [e, pow_int, wrap_nat], ?_⟩
  rw [e, div_int]
  have hg : c % 128 ≠ 0 := by
    intro e
    rw [e] at h
    simp at h
  generalize c % 128 = g at *
  by_cases hs : sh < 64
  · rw [show min sh 64 = sh by omega]
    intro e2
    have e3 : g * 2 ^ sh % 18446744073709551616 / 2 ^ sh = g := by exact_mod_cast e2
    have h1 := Nat.div_mul_le_self (g * 2 ^ sh % 18446744073709551616) (2 ^ sh)
    rw [e3] at h1
    have h2 : g * 2 ^ sh % 18446744073709551616 < 18446744073709551616 := Nat.mod_lt _ (by omega)
    omega
  · rw [show min sh 64 = 64 by omega, show (18446744073709551616 : Nat) = 2 ^ 64 by rfl, Nat.mul_mod_left]
    simp
    omega
theorem or_sum (y g j : Nat) (hy : y < 128 ^ j) (hy2 : y < 18446744073709551616) (h : g * 2 ^ (7 * j) < 18446744073709551616) : bits .or .u64 (y : Int) ((g * 2 ^ (7 * j) : Nat) : Int) = ((y + g * 2 ^ (7 * j) : Nat) : Int) ∧ y + g * 2 ^ (7 * j) < 18446744073709551616 := by
  rw [bits_or_u64_nat _ _ hy2 h]
  have hy3 : y < 2 ^ (7 * j) := by rw [Nat.pow_mul]; exact hy
  have h1 := Nat.two_pow_add_eq_or_of_lt (i := 7 * j) (b := y) hy3 g
  rw [Nat.mul_comm _ g] at h1
  refine ⟨by rw [Nat.or_comm, ← h1, Nat.add_comm], ?_⟩
  by_cases hg : g = 0
  · subst hg; simpa using hy2
  · have hs : 7 * j ≤ 64 := by
      refine Classical.byContradiction fun hs => ?_
      have h1 : 2 ^ 64 ≤ 2 ^ (7 * j) := Nat.pow_le_pow_right (by omega) (by omega)
      have h2 : 2 ^ (7 * j) ≤ g * 2 ^ (7 * j) := Nat.le_mul_of_pos_left _ (by omega)
      omega
    have h2 : (18446744073709551616 : Nat) = 2 ^ (64 - 7 * j) * 2 ^ (7 * j) := by rw [← Nat.pow_add, show 64 - 7 * j + 7 * j = 64 by omega]
    rw [h2] at h ⊢
    have h3 : g < 2 ^ (64 - 7 * j) := Nat.lt_of_mul_lt_mul_right h
    have h4 : (g + 1) * 2 ^ (7 * j) ≤ 2 ^ (64 - 7 * j) * 2 ^ (7 * j) := Nat.mul_le_mul_right _ h3
    rw [Nat.add_mul] at h4
    omega
set_option maxHeartbeats 4000000 in
theorem takeGroups_any (w : World) (p q : Nat) (s : ByteArray) (k : Nat) (h : Tk w p q s k) :
    Calls Tryz.prog 87 #[.func (.func 52) #[] #[.pointer (some ⟨p, 0, none⟩), .pointer (some ⟨q, 0, none⟩)]] w fun e w' => Fr p w w' ∧ ∃ k', Tk w' p q s k' ∧
      ((∃ z : Nat, z < 18446744073709551616 ∧ (Bs.of s).drop k = grp z ++ (Bs.of s).drop k' ∧ e = .returned (.tuple #[.int .u64 (z : Int), .bool true])) ∨ ((∀ (z : Nat) (a : Bs), z < 18446744073709551616 → (Bs.of s).drop k ≠ grp z ++ a) ∧ ∃ y : Int, e = .returned (.tuple #[.int .u64 y, .bool false]))) := by
  have hsz := h.sz
  have hkl := h.le
  have hpl := h.pl
  go_enter Tryz.func87, Tryz.ntmps87
  go_wp2
  go_loopw [4, 5] (fun z c wr => ∃ (j sh y : Nat) (B : Bs), c = .int .i64 (sh : Int) ∧ Hid (sh = 7 * j) ∧ z = .int .u64 (y : Int) ∧ Hid (y = val B) ∧ y < 18446744073709551616 ∧ Hid (Big B ∧ B.length = j ∧ (Bs.of s).drop k = B ++ (Bs.of s).drop (k + j)) ∧ Tk wr p q s (k + j) ∧ Fr p w wr) (fun _ c _ => 7 * s.size + 7 - (intOf c).toNat)
  case atStart => exact ⟨0, 0, 0, [], rfl, rfl, rfl, rfl, by omega, ⟨by simp [Big], rfl, rfl⟩, h, Fr.refl _ _⟩
  case round =>
    obtain ⟨j, sh, y, B, rfl, HS, rfl, HY, hy, HB, T, F⟩ := hrel
    clear h
    have hle := T.le
    have hsh : sh ≤ 7000000 := by have := HS.out; omega
    by_cases hk : k + j < s.size
    · obtain ⟨x, hx, ed⟩ := drop_at s (k + j) hk
      have ht := take_next wr p q s (k + j) hk T
      rw [← hx] at ht
      have hxl := UInt8.toNat_lt x
      have HX := hid ed
      clear hx ed
      obtain ⟨c, HC⟩ : ∃ c, Hid (x.toNat = c) := ⟨_, rfl⟩
      rw [HC.out] at ht hxl
      go_wp2_with fail
      refine ht.mono ?_
      rintro e w1 ⟨rfl, T1, F1'⟩
      have F1 := F.trans F1'
      clear T F ht F1'
      have hxl2 : c < 256 := by omega
      have hc := HC.out
      have HV : Hid (val (B ++ [x]) = y + c % 128 * 2 ^ sh) := by
        show _ = _
        rw [val_snoc, ← HY.out, HS.out, Nat.pow_mul, HB.out.2.1, HC.out]
      have HD : Hid ((Bs.of s).drop k = (B ++ [x]) ++ (Bs.of s).drop (k + j + 1)) := by
        show _ = _
        rw [HB.out.2.2, HX.out, List.append_assoc]; rfl
      by_cases hfit : c % 128 * 2 ^ sh < 18446744073709551616
      · obtain ⟨g1, g2⟩ := shl_fit c sh hfit
        have g3 := or_sum y (c % 128) j (by rw [HY.out, ← HB.out.2.1]; exact val_lt B) hy (by rw [← HS.out]; exact hfit)
        rw [← HS.out] at g3
        obtain ⟨g3, g4⟩ := g3
        have HP := hid (show c < 128 → (B = [] ∨ 0 < c) → grp (y + c % 128 * 2 ^ sh) = B ++ [x] from fun h1 h2 => by
          rw [← HV.out]; exact grp_of HB.out.1 (by rw [HC.out]; exact h1) (by rw [HC.out]; exact h2))
        clear hc hfit
        obtain ⟨Y, hY⟩ : ∃ Y, Y = y + c % 128 * 2 ^ sh := ⟨_, rfl⟩
        rw [← hY] at g3 g4 HV HP
        have HY2 := hid hY
        clear hY
        generalize c % 128 * 2 ^ sh = G at *
        by_cases hbig : 128 ≤ c
        · go_wp2
          go_roundw
          case rel => exact ⟨j + 1, sh + 7, Y, B ++ [x], by go_num, by show _ = _; rw [HS.out]; omega, rfl, HV.out.symm, g4, ⟨fun u hu => by
            rcases List.mem_append.1 hu with hu | hu
            · exact HB.out.1 u hu
            · simp at hu; subst hu; rw [HC.out]; exact hbig, by rw [List.length_append, HB.out.2.1]; rfl, HD.out⟩, T1, F1⟩
          case measure => have := HS.out; simp [intOf]; omega
        · have hlt : c < 128 := by omega
          by_cases h0 : 0 < c
          · have HR := hid (show (Bs.of s).drop k = grp Y ++ (Bs.of s).drop (k + j + 1) by rw [HP.out hlt (Or.inr h0)]; exact HD.out)
            clear HP HV
            go_wp2
            exact bodyPost_ret (v := .tuple #[.int .u64 (Y : Int), .bool true]) (by simp [results, Tryz.results87, go_sem, g3]) rfl ⟨F1, _, T1, Or.inl ⟨Y, g4, HR.out, rfl⟩⟩
          · by_cases hs0 : sh = 0
            · have HR := hid (show (Bs.of s).drop k = grp Y ++ (Bs.of s).drop (k + j + 1) by
                rw [HP.out hlt (Or.inl (List.eq_nil_of_length_eq_zero (by have := HS.out; rw [HB.out.2.1]; omega)))]; exact HD.out)
              clear HP HV
              have hb0 : B = [] := List.eq_nil_of_length_eq_zero (by have := HS.out; rw [HB.out.2.1]; omega)
              have hy0 : y = 0 := by rw [HY.out, hb0]; rfl
              have hc0 : c = 0 := by omega
              have hY0 : Y = 0 := by
                have h1 : bits .or .u64 (y : Int) (G : Int) = 0 := by
                  rw [← g1, hy0, hc0]; simp; decide
                rw [g3] at h1; omega
              rw [hY0] at HR
              have g5 : bits .or .u64 0 0 = 0 := by decide
              clear g1 g2 g3 g4 HY2 hY0 hb0 HY HB HS HX HC HD
              subst hs0
              subst hy0
              subst hc0
              go_wp2
              exact bodyPost_ret (v := .tuple #[.int .u64 ((0 : Nat) : Int), .bool true]) (by simp [results, Tryz.results87, go_sem, g5]) rfl ⟨F1, _, T1, Or.inl ⟨0, by omega, HR.out, rfl⟩⟩
            · have HNo := hid (show ∀ (z : Nat) (a : Bs), z < 18446744073709551616 → (Bs.of s).drop k ≠ grp z ++ a from fun z a hz e => by
                rw [HB.out.2.2, HX.out] at e
                obtain ⟨_, _, h2⟩ := (grp_next HB.out.1 e).2 (by rw [HC.out]; omega) |>.imp id id
                rcases h2 with h2 | h2
                · have := HB.out.2.1
                  have := HS.out
                  rw [h2] at *
                  simp at *
                  omega
                · rw [HC.out] at h2; omega)
              have hs1 : ((sh : Int) == 0) = false := beq_eq_false_iff_ne.2 (by omega)
              clear HP HV hs0
              go_wp2
              exact bodyPost_ret (v := .tuple #[.int .u64 (Y : Int), .bool false]) (by simp [results, Tryz.results87, go_sem, g3]) rfl ⟨F1, _, T1, Or.inr ⟨HNo.out, _, rfl⟩⟩
      · obtain ⟨G, g1, g2⟩ := shl_not c sh hfit
        have HNo := hid (show ∀ (z : Nat) (a : Bs), z < 18446744073709551616 → (Bs.of s).drop k ≠ grp z ++ a from fun z a hz e => by
          rw [HB.out.2.2, HX.out] at e
          have h1 := (grp_next HB.out.1 e).1
          rw [HC.out, HB.out.2.1, show (128 : Nat) ^ j = 2 ^ sh by rw [HS.out, Nat.pow_mul]] at h1
          omega)
        clear hfit HV hc
        go_wp2
        exact bodyPost_ret (v := .tuple #[.int .u64 0, .bool false]) (by simp [results, Tryz.results87, go_sem]) rfl ⟨F1, _, T1, Or.inr ⟨HNo.out, _, rfl⟩⟩
    · have hk' : k + j = s.size := by omega
      have HNo := hid (show ∀ (z : Nat) (a : Bs), z < 18446744073709551616 → (Bs.of s).drop k ≠ grp z ++ a from fun z a hz e => by
        rw [HB.out.2.2, hk', drop_end s _ (Nat.le_refl _), List.append_nil] at e
        exact grp_more HB.out.1 e)
      rw [hk'] at T
      have ht := take_end wr p q s T
      clear hk' hk hle
      go_wp2_with fail
      refine ht.mono ?_
      rintro e w2 ⟨rfl, rfl⟩
      go_wp2
      exact bodyPost_ret (v := .tuple #[.int .u64 0, .bool false]) (by simp [results, Tryz.results87, go_sem]) rfl ⟨F, _, T, Or.inr ⟨HNo.out, _, rfl⟩⟩
end Go.Proofs.YtjldlmonccgopaaGreat.Rc
