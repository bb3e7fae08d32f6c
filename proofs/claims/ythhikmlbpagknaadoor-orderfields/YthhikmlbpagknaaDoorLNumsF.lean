/- lex: Numbers once more, both: the row that is answered is new. -/
import Derived.Test.YthhikmlbpagknaaDoorLNums
namespace Go.Proofs.YthhikmlbpagknaaDoor
open Go.RowKit
set_option linter.unusedVariables false
set_option maxRecDepth 100000
set_option linter.unusedSimpArgs false

/-- The slice lies at block B or behind it. -/
def Fresh (B : Nat) (v : Value) : Prop := ∀ b off n c, v = .slice (some ⟨b, off, none⟩) n c → B ≤ b
theorem fresh_none (B : Nat) {n c : Nat} : Fresh B (.slice none n c) := by
  intro b off n' c' e
  cases e
theorem fresh_own {w : World} {base size B : Nat} {e : TypeId} {v : Value} {n : Nat} {xs : List Value} (h : w.ownsRow base e size v n xs) (hB : B ≤ base) : Fresh B v := by
  rcases h.2 with ⟨rfl, _⟩ | ⟨g, cap, cur, rfl, hg, _⟩
  · exact fresh_none B
  · intro b off n' c' e
    simp only [Value.slice.injEq, Option.some.injEq, Addr.mk.injEq] at e
    omega
theorem Fresh.mono {A B : Nat} {v : Value} (h : Fresh B v) (hA : A ≤ B) : Fresh A v := fun b off n c e => Nat.le_trans hA (h b off n c e)
theorem tunf_no {x : Int} {y : ByteArray} (hx : numsE y = x) (h0 : x ≠ 0) (w : World) (B : Nat) : ∃ v, Ending.returned (.tuple #[.slice none 0 0, .int .i64 x]) = .returned (.tuple #[v, .int .i64 (numsE y)]) ∧ Ints w v (numsL y) ∧ Fresh B v := by
  rw [numsL_no (by rw [hx]; exact h0), hx]
  exact ⟨_, rfl, Row1.nil w, fresh_none B⟩
set_option maxHeartbeats 3200000 in
theorem numbersF_any (s : ByteArray) (w : World) (hs : s.size ≤ 1000000) (hm : Mx w) :
    Calls Tryd.prog 108 #[.string s] w fun e w' => (∃ v, e = .returned (.tuple #[v, .int .i64 (numsE s)]) ∧ Ints w' v (numsL s) ∧ Fresh w.heap.size v) ∧ Below w.heap.size w w' := by
  obtain ⟨i0, hi, hz0, hz1, hz2⟩ := info_parts info_int
  obtain ⟨hp1, hp2⟩ := parts_size 44 s
  have HP2 := hid hp2
  clear hp2
  go_enter Tryd.func108, Tryd.ntmps108
  go_wp2_with fail
  refine (split_any s 44 w (by omega) hm).mono ?_
  rintro e w' ⟨rfl, hw⟩
  rw [hw]
  clear hw
  have b2 : Below w.heap.size w (w.alloc (.cells (strV (parts 44 s)).toArray 9)) := (Below.refl _ _).alloc (Nat.le_refl _) _
  have hblk : (w.alloc (.cells (strV (parts 44 s)).toArray 9)).heap[w.heap.size]? = some (.cells (strV (parts 44 s)).toArray 9 (0, 0)) := heap_alloc_last w _
  have hlt : w.heap.size + 1 ≤ (w.alloc (.cells (strV (parts 44 s)).toArray 9)).heap.size := by simp
  obtain ⟨L, HL⟩ : ∃ L, Hid (L = parts 44 s) := ⟨_, rfl⟩
  rw [← HL.out] at b2 hblk hlt hp1 ⊢
  generalize w.alloc (.cells (strV L).toArray 9) = w2 at *
  go_wp2
  go_loopw [4, 12] (fun l i wr => ∃ k : Nat, k ≤ L.length ∧ i = .int .i64 (k : Int) ∧ Hid (∀ x ∈ L.take k, numE x = 0) ∧ wr.ownsRow (w.heap.size + 1) 3 1 l k (intV ((L.take k).map numR)) ∧ wr.heap[w.heap.size]? = some (.cells (strV L).toArray 9 (0, 0)) ∧ w.heap.size + 1 ≤ wr.heap.size ∧ Below w.heap.size w wr) (fun _ i _ => L.length - (intOf i).toNat)
  case atStart => exact ⟨0, Nat.zero_le _, rfl, by show ∀ x ∈ List.take 0 L, numE x = 0; simp, World.ownsRow_nil _ _ _ _, hblk, hlt, b2⟩
  case round =>
    obtain ⟨k, hk, rfl, HN, o, hb, hsw, bw⟩ := hrel
    clear hblk b2 hlt
    obtain ⟨sa, sc, rfl⟩ := own_slice o
    by_cases hlt2 : k < L.length
    · have ck := cell_at hb k _ (show (strV L)[k]? = some (.string L[k]) by simp [strV, hlt2])
      have HM := hid (List.getElem_mem hlt2)
      have HS := hid (HP2.out L[k] (by rw [← HL.out]; exact HM.out))
      have HT := hid (List.take_succ_eq_append_getElem hlt2)
      generalize L[k] = x at *
      go_wp2_with fail
      refine (number_any x wr (by have := HS.out; omega)).mono ?_
      rintro e w3 ⟨rfl, b3⟩
      have hb3 := (b3.block _ (lt_of_block hb)).trans hb
      have o3 := own_below o b3
      have bw3 : Below w.heap.size w w3 := chain2 bw b3
      have hs3 : w.heap.size + 1 ≤ w3.heap.size := Nat.le_trans hsw b3.size
      clear o b3 bw hb ck
      rcases numE_ways x with he | he
      · have HE := hid he
        rw [he]
        obtain ⟨y, hy⟩ : ∃ y, Hid (y = numR x) := ⟨_, rfl⟩
        rw [← hy.out]
        clear he
        go_wp2_with (at_builtin; refine wpList_append_own _ rfl _ _ 28 rfl (w.heap.size + 1) 3 i0 (.int .i64 0) 1 8 Tryd.underlying28 hi hz0 hz1 hz2 rfl (by decide) _ _ _ rfl (o3.alloc _) ⟨w3.heap.size, 0, none⟩ 1 1 [.int .i64 y] rfl rfl (by intro j u hu; match j, hu with | 0, hu => simp at hu; subst hu; simp [Addr.add]) (by intro u hu; simp at hu; subst hu; rfl) (by unfold maxLen; omega) (by omega) (by simp; omega) ?_)
        intro v' w4 o4 hgrow _
        have b4 : Below (w.heap.size + 1) (w3.alloc (Obj.cells #[.int .i64 y] 3)) w4 := (Below.refl _ _).grown hgrow (by simp; omega) (fun g hg => (o3.lt g hg).1)
        have bA : Below (w.heap.size + 1) w3 w4 := ((Below.refl _ _).alloc hs3 _).trans b4
        have hb4 := (bA.block w.heap.size (by omega)).trans hb3
        have bw4 : Below w.heap.size w w4 := bw3.trans (bA.mono (by omega))
        have hs4 : w.heap.size + 1 ≤ w4.heap.size := Nat.le_trans hs3 bA.size
        have o5 : w4.ownsRow (w.heap.size + 1) 3 1 v' (k + 1) (intV ((L.take (k + 1)).map numR)) := by
          rw [HT.out, List.map_append, intV_app, List.map_singleton, ← hy.out]
          rw [← List.map_take] at o4
          exact o4
        clear o4 o3 hgrow b4 bA hb3 bw3
        go_wp2
        go_roundw
        case rel => exact ⟨k + 1, by omega, by go_num, by
          show ∀ z ∈ L.take (k + 1), numE z = 0
          rw [HT.out]
          intro z hz
          rcases List.mem_append.1 hz with hz | hz
          · exact HN.out z hz
          · simp at hz; subst hz; exact HE.out, o5, hb4, hs4, bw4⟩
        case measure => simp [intOf]; omega
      · rw [he]
        have HE := hid (numsE_word (noNum_mem (by rw [← HL.out]; exact HM.out) he))
        go_wp2
        go_ret2
        exact ⟨tunf_no HE.out (by omega) _ _, bw3⟩
    · obtain rfl : k = L.length := by omega
      rw [List.take_of_length_le (Nat.le_refl _)] at HN o
      have HZ := hid (show noNum (parts 44 s) = false by rw [← HL.out]; exact noNum_none HN.out)
      by_cases h3 : 16 < L.length
      · have HE := hid (numsE_many HZ.out (by rw [← HL.out]; exact h3))
        go_wp2
        go_ret2
        exact ⟨tunf_no HE.out (by omega) _ _, bw⟩
      · have HE := hid (numsE_ok HZ.out (by rw [← HL.out]; exact h3))
        have HW := hid (show numsL s = L.map numR by rw [numsL_ok HE.out, HL.out])
        go_wp2
        go_ret2
        refine ⟨⟨.slice sa L.length sc, (by rw [HE.out]; rfl), ?_, fresh_own o (by omega)⟩, bw⟩
        rw [HW.out]
        refine Row1.of_own (base := w.heap.size + 1) (e := 3) ?_
        rw [intV_len, List.length_map]; exact o
set_option maxHeartbeats 3200000 in
theorem znumbersF_any (s : ByteArray) (w : World) (hs : s.size ≤ 1000000) :
    Calls Tryd.prog 41 #[.string s] w fun e w' => (∃ v, e = .returned (.tuple #[v, .int .i64 (numsE s)]) ∧ Ints w' v (numsL s) ∧ Fresh w.heap.size v) ∧ Below w.heap.size w w' := by
  obtain ⟨i0, hi, hz0, hz1, hz2⟩ := info_parts info_int
  go_enter Tryd.func41, Tryd.ntmps41
  go_wp2
  have b2 : Below w.heap.size w (w.alloc (.cells #[] 3)) := (Below.refl _ _).alloc (Nat.le_refl _) _
  have o2 : (w.alloc (.cells #[] 3)).ownsRow w.heap.size 3 1 (.slice (some ⟨w.heap.size, 0, none⟩) 0 0) 0 [] := World.ownsRow_made w #[] 0 (Nat.le_refl _) (Nat.zero_le _) (by simp)
  generalize w.alloc (.cells #[] 3) = w2 at *
  go_loopw [4, 5, 6] (fun l f i wr => ∃ (k fr : Nat) (L : List ByteArray), k ≤ s.size + 1 ∧ i = .int .i64 (k : Int) ∧ f = .int .i64 (fr : Int) ∧ fr ≤ k ∧ L.length ≤ k ∧ Hid (CutRel 44 s L fr k ∧ ∀ x ∈ L, numE x = 0) ∧ wr.ownsRow w.heap.size 3 1 l L.length (intV (L.map numR)) ∧ Below w.heap.size w wr) (fun _ _ i _ => s.size + 1 - (intOf i).toNat)
  case atStart => exact ⟨0, 0, [], by omega, rfl, rfl, Nat.le_refl _, Nat.zero_le _, ⟨CutRel.start 44 s, by simp⟩, o2, b2⟩
  case round =>
    obtain ⟨k, fr, L, hk, rfl, rfl, hfr, hLk, HC, o, b⟩ := hrel
    clear o2 b2
    have hsw := b.size
    obtain ⟨sa, sc, rfl⟩ := own_slice o
    by_cases hle : k ≤ s.size
    · have hcut : ∀ (L' : List ByteArray), k < s.size → bt s k ≠ 44 → True := fun _ _ _ => trivial
      by_cases hq : k < s.size ∧ bt s k ≠ 44
      · obtain ⟨hlt, hb⟩ := hq
        have ek := bt_at s k hlt
        have t1 : ((k : Int) == (s.size : Int)) = false := beq_eq_false_iff_ne.2 (by omega)
        have t2 : ((bt s k : Int) == 44) = false := beq_eq_false_iff_ne.2 (by omega)
        have HH := hid (HC.out.1.on hlt (by show bt s k ≠ 44; exact hb))
        clear hb hcut
        go_wp2
        go_roundw
        case rel => exact ⟨k + 1, fr, L, by omega, by go_num, rfl, by omega, by omega, ⟨HH.out, HC.out.2⟩, o, b⟩
        case measure => simp [intOf]; omega
      · have hh : (k < s.size ∧ bt s k = 44) ∨ k = s.size := by omega
        have HH := hid (show CutRel 44 s (L ++ [s.extract fr k]) (k + 1) (k + 1) ∧ s.extract fr k ∈ parts 44 s from by
          rcases hh with ⟨h1, h2⟩ | h1
          · exact HC.out.1.hit h1 h2
          · exact HC.out.1.done h1)
        have hxs : (s.extract fr k).size ≤ s.size := by rw [ByteArray.size_extract]; omega
        obtain ⟨x, hx⟩ : ∃ x, s.extract fr k = x := ⟨_, rfl⟩
        rw [hx] at HH hxs
        clear hq hcut
        rcases hh with ⟨hlt, hb⟩ | hkk
        case' inl =>
          have ek := bt_at s k hlt
          rw [hb] at ek
          have t1 : ((k : Int) == (s.size : Int)) = false := beq_eq_false_iff_ne.2 (by omega)
          clear hb
        case' inr =>
          subst hkk
        all_goals
          go_wp2_with fail
          refine (znumber_any x wr (by omega)).mono ?_
          rintro e w3 ⟨rfl, b3⟩
          have o3 := own_below o b3
          have bw3 : Below w.heap.size w w3 := chain2 b b3
          have hs3 := bw3.size
          clear o b3 b hx
          rcases numE_ways x with he | he
          · have HE := hid he
            rw [he]
            obtain ⟨y, hy⟩ : ∃ y, Hid (y = numR x) := ⟨_, rfl⟩
            rw [← hy.out]
            clear he
            go_wp2_with (at_builtin; refine wpList_append_own _ rfl _ _ 28 rfl w.heap.size 3 i0 (.int .i64 0) 1 8 Tryd.underlying28 hi hz0 hz1 hz2 rfl (by decide) _ _ _ rfl (o3.alloc _) ⟨w3.heap.size, 0, none⟩ 1 1 [.int .i64 y] rfl rfl (by intro j u hu; match j, hu with | 0, hu => simp at hu; subst hu; simp [Addr.add]) (by intro u hu; simp at hu; subst hu; rfl) (by unfold maxLen; omega) (by omega) (by simp; omega) ?_)
            intro v' w4 o4 hgrow _
            have b4 : Below w.heap.size w w4 := (bw3.alloc hs3 _).grown hgrow (by simp; omega) (fun g hg => (o3.lt g hg).1)
            have o5 : w4.ownsRow w.heap.size 3 1 v' (L ++ [x]).length (intV ((L ++ [x]).map numR)) := by
              rw [List.map_append, intV_app, List.map_singleton, ← hy.out, List.length_append]
              exact o4
            clear o4 o3 hgrow bw3
            go_wp2
            go_roundw
            case rel => exact ⟨_, _, L ++ [x], by omega, by go_num, by go_num, Nat.le_refl _, by simp; omega, ⟨HH.out.1, by
              intro z hz
              rcases List.mem_append.1 hz with hz | hz
              · exact HC.out.2 z hz
              · simp at hz; subst hz; exact HE.out⟩, o5, b4⟩
            case measure => simp [intOf]; try omega
          · rw [he]
            have HE := hid (numsE_word (noNum_mem HH.out.2 he))
            go_wp2
            go_ret2
            exact ⟨tunf_no HE.out (by omega) _ _, bw3⟩
    · have HP := hid (HC.out.1.end' hle)
      have HZ := hid (show noNum (parts 44 s) = false by rw [HP.out]; exact noNum_none HC.out.2)
      by_cases h3 : 16 < L.length
      · have HE := hid (numsE_many HZ.out (by rw [HP.out]; exact h3))
        go_wp2
        go_ret2
        exact ⟨tunf_no HE.out (by omega) _ _, b⟩
      · have HE := hid (numsE_ok HZ.out (by rw [HP.out]; exact h3))
        have HW := hid (show numsL s = L.map numR by rw [numsL_ok HE.out, HP.out])
        go_wp2
        go_ret2
        refine ⟨⟨.slice sa L.length sc, (by rw [HE.out]; rfl), ?_, fresh_own o (by omega)⟩, b⟩
        rw [HW.out]
        refine Row1.of_own (base := w.heap.size) (e := 3) ?_
        rw [intV_len, List.length_map]; exact o
end Go.Proofs.YthhikmlbpagknaaDoor
