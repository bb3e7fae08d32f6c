/- lex: the document's Words. -/
import Derived.Test.YteelnimchlgdmaaDoorLWords
import Derived.Test.YteelnimchlgdmaaDoorLCutM
namespace Go.Proofs.YteelnimchlgdmaaDoor
open Go.RowKit
set_option linter.unusedVariables false
set_option maxRecDepth 100000
set_option linter.unusedSimpArgs false

theorem ext_len (s : ByteArray) (f k : Nat) (hk : k ≤ s.size) : (s.extract f k).size = k - f := by rw [ByteArray.size_extract]; omega
theorem tup_no' {x : Int} {y : ByteArray} (hx : wordsE y = x) (h0 : x ≠ 0) (w : World) : ∃ v, Ending.returned (.tuple #[.slice none 0 0, .int .i64 x]) = .returned (.tuple #[v, .int .i64 (wordsE y)]) ∧ Strs w v (wordsL y) := tup_no hx h0 w
set_option maxHeartbeats 3200000 in
theorem zwords_any (s : ByteArray) (w : World) (hs : s.size ≤ 1000000000) :
    Calls Tryd.prog 15 #[.string s] w fun e w' => (∃ v, e = .returned (.tuple #[v, .int .i64 (wordsE s)]) ∧ Strs w' v (wordsL s)) ∧ Below w.heap.size w w' := by
  obtain ⟨i0, hi, hz0, hz1, hz2⟩ := info_parts info_string
  by_cases hz : 200 < s.size
  · have HE := hid (wordsE_size hz)
    go_enter Tryd.func15, Tryd.ntmps15
    go_wp2
    go_ret2
    exact ⟨tup_no HE.out (by omega) _, Below.refl _ _⟩
  go_enter Tryd.func15, Tryd.ntmps15
  go_wp2
  go_loopw [] (fun wr => ∃ pos : Nat, pos ≤ s.size ∧ wr = w.iter s pos ∧ Hid (runs may (bl s) = runs may ((bl s).drop pos))) (fun wr => s.size - wr.iterPos w.heap.size)
  case atStart => exact ⟨0, Nat.zero_le _, rfl, by simp [Hid]⟩
  case round =>
    obtain ⟨pos, hpos, rfl, HR⟩ := hrel
    by_cases hp : pos < s.size
    · have hnx : ∀ ty, (Instr.next (.pointer (some ⟨w.heap.size, 0, none⟩)) true ty).run Tryd.prog (w.iter s pos) = _ := fun ty => run_next_any w s pos ty hp
      have hL := fun v => kind_any (Utf8.decode s pos).1 v
      have hk := kind_may (Utf8.decode s pos).1
      rcases Bool.eq_false_or_eq_true (may (Utf8.decode s pos).1) with e1 | e1
      · have HY := hid (runs_yes few_may hp e1)
        rw [e1] at hk
        simp only [Bool.not_true] at hk
        clear e1
        generalize Utf8.decode s pos = d at *
        generalize kindOf d.1 = kk at *
        go_wp2_with (go_at_call 29; refine (hL _).mono ?_; rintro e w' ⟨rfl, rfl⟩)
        go_roundw
        case rel => exact ⟨pos + d.2, HY.out.2.2.2, rfl, by show _ = _; rw [HR.out, HY.out.1]⟩
        case measure => have := HY.out.2.2; simp; omega
      · have HY := hid (runs_no few_may hp e1)
        rw [e1] at hk
        simp only [Bool.not_false] at hk
        clear e1
        have HE := hid (wordsE_rune hz (by rw [HR.out, HY.out]))
        generalize Utf8.decode s pos = d at *
        generalize kindOf d.1 = kk at *
        go_wp2_with (go_at_call 29; refine (hL _).mono ?_; rintro e w' ⟨rfl, rfl⟩)
        go_ret2
        exact ⟨tup_no HE.out (by omega) _, iter_below w s _⟩
    · have hnx : ∀ ty, (Instr.next (.pointer (some ⟨w.heap.size, 0, none⟩)) true ty).run Tryd.prog (w.iter s pos) = _ := fun ty => run_next_end w s pos ty hp
      have H1 := hid (show runs may (bl s) = true by rw [HR.out, drop_all s pos hp]; rfl)
      have b1 := iter_below w s pos
      clear HR hpos hp
      go_wp2
      generalize w.iter s pos = w1 at *
      clear hnx
      have b2 : Below w.heap.size w (w1.alloc (.cells #[] 9)) := b1.alloc b1.size _
      have o2 : (w1.alloc (.cells #[] 9)).ownsRow w.heap.size 9 1 (.slice (some ⟨w1.heap.size, 0, none⟩) 0 0) 0 [] := World.ownsRow_made w1 #[] 0 b1.size (Nat.zero_le _) (by simp)
      generalize w1.alloc (.cells #[] 9) = w2 at *
      generalize w1.heap.size = g at *
      clear b1
      go_loopw [6, 7, 8] (fun l f i wr => ∃ (k fr : Nat) (L : List ByteArray), k ≤ s.size + 1 ∧ i = .int .i64 (k : Int) ∧ f = .int .i64 (fr : Int) ∧ fr ≤ k ∧ L.length ≤ k ∧ Hid (CutRel 32 s L fr k ∧ hole L = false ∧ ∀ x ∈ L, x.size ≤ s.size) ∧ wr.ownsRow w.heap.size 9 1 l L.length (strV L) ∧ Below w.heap.size w wr) (fun _ _ i _ => s.size + 1 - (intOf i).toNat)
      case atStart => exact ⟨0, 0, [], by omega, rfl, rfl, Nat.le_refl _, Nat.zero_le _, ⟨CutRel.start 32 s, rfl, by simp⟩, o2, b2⟩
      case round =>
        obtain ⟨k, fr, L, hk, rfl, rfl, hfr, hLk, HC, o, b⟩ := hrel
        clear o2 b2
        have hsw := b.size
        obtain ⟨sa, sc, rfl⟩ := own_slice o
        by_cases hle : k ≤ s.size
        · have t0 : decide ((k : Int) ≤ (s.size : Int)) = true := decide_eq_true (by omega)
          by_cases hlt : k < s.size
          · have ek := bt_at s k hlt
            have t1 : ((k : Int) == (s.size : Int)) = false := beq_eq_false_iff_ne.2 (by omega)
            by_cases hb : bt s k = 32
            · rw [hb] at ek
              obtain ⟨hc1, hc2⟩ := HC.out.1.hit hlt (by rw [hb]; rfl)
              have HH := hid (And.intro hc1 hc2)
              have hxs := ext_len s fr k hle
              clear hc1 hc2 hb
              by_cases hek : k = fr
              · have HE := hid (wordsE_word hz H1.out (hole_mem HH.out.2 (by omega)))
                subst hek
                have t2 : ((k : Int) == (k : Int)) = true := by simp
                go_wp2
                go_ret2
                exact ⟨tup_no HE.out (by omega) _, b⟩
              · have t2 : ((k : Int) == (fr : Int)) = false := beq_eq_false_iff_ne.2 (by omega)
                have HN := hid (show hole (L ++ [s.extract fr k]) = false by rw [hole_app, HC.out.2.1, hole_one (by omega)]; rfl)
                clear hek
                obtain ⟨x, hx⟩ : ∃ x, s.extract fr k = x := ⟨_, rfl⟩
                rw [hx] at HH HN hxs
                go_wp2_with (at_builtin; refine wpList_append_own _ rfl _ _ 33 rfl w.heap.size 9 i0 (.string ByteArray.empty) 1 16 Tryd.underlying33 hi hz0 hz1 hz2 rfl (by decide) _ _ _ rfl (o.alloc _) ⟨wr.heap.size, 0, none⟩ 1 1 [.string x] rfl rfl (by intro j u hu; match j, hu with | 0, hu => simp at hu; subst hu; simp [Addr.add]) (by intro u hu; simp at hu; subst hu; rfl) (by unfold maxLen; omega) (by omega) (by simp; omega) ?_)
                intro v' w3 o3 hgrow _
                have b3 : Below w.heap.size w w3 := (b.alloc hsw _).grown hgrow (by simp; omega) (fun g hg => (o.lt g hg).1)
                have o4 : w3.ownsRow w.heap.size 9 1 v' (L ++ [x]).length (strV (L ++ [x])) := by
                  rw [strV_app, List.length_append]
                  exact o3
                clear o3 hgrow o
                go_wp2
                go_roundw
                case rel => exact ⟨k + 1, k + 1, L ++ [x], by omega, by go_num, by go_num, Nat.le_refl _, by simp; omega, ⟨HH.out.1, HN.out, fun y hy => by
                  rcases List.mem_append.1 hy with hy | hy
                  · exact HC.out.2.2 y hy
                  · simp at hy; subst hy; omega⟩, o4, b3⟩
                case measure => simp [intOf]; omega
            · have t2 : ((bt s k : Int) == 32) = false := beq_eq_false_iff_ne.2 (by omega)
              have HH := hid (HC.out.1.on hlt (by show bt s k ≠ 32; exact hb))
              clear hb
              go_wp2
              go_roundw
              case rel => exact ⟨k + 1, fr, L, by omega, by go_num, rfl, by omega, by omega, ⟨HH.out, HC.out.2⟩, o, b⟩
              case measure => simp [intOf]; omega
          · obtain rfl : k = s.size := by omega
            obtain ⟨hc1, hc2⟩ := HC.out.1.done rfl
            have HH := hid (And.intro hc1 hc2)
            have hxs := ext_len s fr s.size (Nat.le_refl _)
            have t1 : ((s.size : Int) == (s.size : Int)) = true := by simp
            clear hc1 hc2
            by_cases hek : s.size = fr
            · have HE := hid (wordsE_word hz H1.out (hole_mem HH.out.2 (by omega)))
              subst hek
              go_wp2
              go_ret2
              exact ⟨tup_no HE.out (by omega) _, b⟩
            · have t2 : ((s.size : Int) == (fr : Int)) = false := beq_eq_false_iff_ne.2 (by omega)
              have HN := hid (show hole (L ++ [s.extract fr s.size]) = false by rw [hole_app, HC.out.2.1, hole_one (by omega)]; rfl)
              clear hek
              obtain ⟨x, hx⟩ : ∃ x, s.extract fr s.size = x := ⟨_, rfl⟩
              rw [hx] at HH HN hxs
              go_wp2_with (at_builtin; refine wpList_append_own _ rfl _ _ 33 rfl w.heap.size 9 i0 (.string ByteArray.empty) 1 16 Tryd.underlying33 hi hz0 hz1 hz2 rfl (by decide) _ _ _ rfl (o.alloc _) ⟨wr.heap.size, 0, none⟩ 1 1 [.string x] rfl rfl (by intro j u hu; match j, hu with | 0, hu => simp at hu; subst hu; simp [Addr.add]) (by intro u hu; simp at hu; subst hu; rfl) (by unfold maxLen; omega) (by omega) (by simp; omega) ?_)
              intro v' w3 o3 hgrow _
              have b3 : Below w.heap.size w w3 := (b.alloc hsw _).grown hgrow (by simp; omega) (fun g hg => (o.lt g hg).1)
              have o4 : w3.ownsRow w.heap.size 9 1 v' (L ++ [x]).length (strV (L ++ [x])) := by
                rw [strV_app, List.length_append]
                exact o3
              clear o3 hgrow o
              go_wp2
              go_roundw
              case rel => exact ⟨s.size + 1, s.size + 1, L ++ [x], by omega, by go_num, by go_num, Nat.le_refl _, by simp; omega, ⟨HH.out.1, HN.out, fun y hy => by
                rcases List.mem_append.1 hy with hy | hy
                · exact HC.out.2.2 y hy
                · simp at hy; subst hy; omega⟩, o4, b3⟩
              case measure => simp [intOf]
        · have t0 : decide ((k : Int) ≤ (s.size : Int)) = false := decide_eq_false (by omega)
          have HP := hid (HC.out.1.end' hle)
          clear t0
          by_cases h3 : 16 < L.length
          · have HE := hid (wordsE_many hz H1.out (by rw [HP.out]; exact HC.out.2.1) (by rw [HP.out]; exact h3))
            go_wp2
            go_ret2
            exact ⟨tup_no HE.out (by omega) _, b⟩
          · have HE := hid (wordsE_ok hz H1.out (by rw [HP.out]; exact HC.out.2.1) (by rw [HP.out]; exact h3))
            have HW := hid (show wordsL s = L by rw [wordsL_ok HE.out, HP.out])
            go_wp2
            go_ret2
            refine ⟨⟨.slice sa L.length sc, (by rw [HE.out]; rfl), ?_⟩, b⟩
            rw [HW.out]
            refine ⟨?_, fun x hx => by have := HC.out.2.2 x hx; unfold maxLen; omega⟩
            refine Row1.of_own (base := w.heap.size) (e := 9) ?_
            rw [strV_len]; exact o
end Go.Proofs.YteelnimchlgdmaaDoor
