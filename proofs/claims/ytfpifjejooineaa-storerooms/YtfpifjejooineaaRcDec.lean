/- record: Decode. -/
import Derived.Test.YtfpifjejooineaaRcRec
namespace Go.Proofs.Ytfpifjejooineaa.Rc
open Go.RowKit
set_option linter.unusedVariables false
set_option maxRecDepth 100000
set_option linter.unusedSimpArgs false

theorem Good.fits {r : Rec} (g : Good r) : RecFits r := by
  have h1 := g.kind; have h2 := g.who; have h3 := g.text
  exact ⟨by unfold I64; omega, by unfold maxLen; omega, by unfold maxLen; omega⟩
/-- Records that were decoded: their numbers are the call's own too. -/
def DRow (w : World) (base : Nat) (l : Value) (L : List Rec) : Prop :=
  (∀ r ∈ L, Good r) ∧ ∃ vs : List Value, vs.length = L.length ∧ w.ownsRow base 29 4 l L.length (flat L vs) ∧ ∀ i (h : i < L.length) (h' : i < vs.length), w.ownsRow base 3 1 vs[i] L[i].nums.length (i64s L[i].nums)
theorem own_kind {w : World} {base size : Nat} {e : TypeId} {v : Value} {n : Nat} {xs : List Value} (h : w.ownsRow base e size v n xs) (g : Nat) (hg : v.ownBlock = some g) : ∃ c fz, w.heap[g]? = some (.cells c e fz) := by
  rcases h.2 with ⟨rfl, _⟩ | ⟨g', cap, cur, rfl, _, hh, _⟩
  · simp [Value.ownBlock] at hg
  · simp [Value.ownBlock] at hg; subst hg; exact ⟨_, _, hh⟩
theorem own_apart {w : World} {base base' size size' : Nat} {e e' : TypeId} {v v' : Value} {n n' : Nat} {xs xs' : List Value} (h : w.ownsRow base e size v n xs) (h' : w.ownsRow base' e' size' v' n' xs') (hne : e ≠ e') : v.ownBlock = none ∨ v.ownBlock ≠ v'.ownBlock := by
  cases hv : v.ownBlock with
  | none => exact Or.inl rfl
  | some g =>
    refine Or.inr fun e2 => ?_
    obtain ⟨c, fz, h1⟩ := own_kind h g hv
    obtain ⟨c', fz', h2⟩ := own_kind h' g e2.symm
    rw [h1] at h2
    simp only [Option.some.injEq, Obj.cells.injEq] at h2
    exact hne h2.2.1
theorem DRow.row {w : World} {base : Nat} {l : Value} {L : List Rec} (h : DRow w base l L) : Row w base l L := by
  obtain ⟨hf, vs, h1, h2, h3⟩ := h
  refine ⟨fun r hr => (hf r hr).fits, vs, h1, h2, fun i hi hi' => ⟨IsInts.of_own (h3 i hi hi') (hf _ (List.getElem_mem hi)).fit, fun hn => ?_⟩⟩
  rcases own_apart (h3 i hi hi') h2 (by decide) with h | h
  · obtain ⟨b, hb, _⟩ := (IsInts.of_own (h3 i hi hi') (hf _ (List.getElem_mem hi)).fit).lt hn
    rw [h] at hb; cases hb
  · exact h
theorem DRow.fr {p : Nat} {w w' : World} {base : Nat} {l : Value} {L : List Rec} (h : DRow w base l L) (k : Fr p w w') (hp : p < base) : DRow w' base l L := by
  obtain ⟨hf, vs, h1, h2, h3⟩ := h
  exact ⟨hf, vs, h1, k.own h2 hp, fun i hi hi' => k.own (h3 i hi hi') hp⟩
theorem DRow.below {w w' : World} {base : Nat} {l : Value} {L : List Rec} (h : DRow w base l L) (k : Below w.heap.size w w') : DRow w' base l L := by
  obtain ⟨hf, vs, h1, h2, h3⟩ := h
  exact ⟨hf, vs, h1, own_below h2 k, fun i hi hi' => own_below (h3 i hi hi') k⟩
theorem DRow.nil (w : World) (base : Nat) : DRow w base (.slice none 0 0) [] := ⟨by simp, [], rfl, World.ownsRow_nil _ _ _ _, fun i hi => by simp at hi⟩
theorem DRow.snoc {w w' : World} {base : Nat} {l l' v : Value} {L : List Rec} {r : Rec} {vs : List Value} (hf : ∀ q ∈ L, Good q) (h1 : vs.length = L.length) (h2 : w.ownsRow base 29 4 l L.length (flat L vs)) (h3 : ∀ i (h : i < L.length) (h' : i < vs.length), w.ownsRow base 3 1 vs[i] L[i].nums.length (i64s L[i].nums))
    (hr : Good r) (hv : w.ownsRow base 3 1 v r.nums.length (i64s r.nums))
    (ho : w'.ownsRow base 29 4 l' (L.length + 1) (flat L vs ++ [.int .i64 r.kind, .string r.who, v, .string r.text])) (hg : w.grownBy w' l.ownBlock) : DRow w' base l' (L ++ [r]) := by
  refine ⟨fun q hq => ?_, vs ++ [v], by simp [h1], by rw [flat_snoc L vs r v h1]; simpa using ho, fun i hi hi' => ?_⟩
  · rcases List.mem_append.1 hq with hq | hq
    · exact hf q hq
    · simp at hq; subst hq; exact hr
  · by_cases hlt : i < L.length
    · simp only [List.getElem_append_left hlt, List.getElem_append_left (show i < vs.length by omega)]
      exact (h3 i hlt (by omega)).kept hg (own_apart (h3 i hlt (by omega)) h2 (by decide))
    · obtain rfl : i = L.length := by simp at hi; omega
      simp only [List.getElem_append_right (Nat.le_refl _), List.getElem_append_right (show vs.length ≤ L.length by omega), Nat.sub_self, h1, List.getElem_cons_zero]
      exact hv.kept hg (own_apart hv h2 (by decide))
theorem four_cells (X : World) (t : TypeId) (v0 v1 v2 v3 : Value) : ∀ j u, [v0, v1, v2, v3][j]? = some u → (X.alloc (.cells #[v0, v1, v2, v3] t)).cell? ((⟨X.heap.size, 0, none⟩ : Addr).add j) = some u := by
  intro j u hj
  rw [add_off, Nat.zero_add]
  exact cell_at (L := [v0, v1, v2, v3]) (heap_alloc_last X _) j u hj
set_option maxHeartbeats 8000000 in
theorem decode_any (w : World) (s : ByteArray) (hs : s.size ≤ 1000000) :
    Calls Try.prog 30 #[.string s] w fun e w' => ∃ (l : Value) (L : List Rec) (n : Nat), e = .returned (.tuple #[l, .int .i64 (n : Int)]) ∧ Dec (Bs.of s) L n ∧ Row w' w.heap.size l L ∧ Below w.heap.size w w' := by
  have B0 := ((Below.refl w.heap.size w).alloc (Nat.le_refl _) (Obj.cells #[.string s] 9)).alloc (by simp) (Obj.cells #[.int .i64 0] 3)
  have T0 : Tk ((w.alloc (Obj.cells #[.string s] 9)).alloc (Obj.cells #[.int .i64 0] 3)) (w.heap.size + 1) w.heap.size s 0 :=
    ⟨by have := heap_alloc_last (w.alloc (Obj.cells #[.string s] 9)) (Obj.cells #[.int .i64 0] 3); rwa [World.size_alloc] at this, (Below.heap_alloc _ _ _ (by simp)).trans (heap_alloc_last w _), by omega, by omega, hs⟩
  obtain ⟨i0, hi, hz0, hz1, hz2⟩ := info_parts info_rec
  go_enter Try.func30, Try.ntmps30
  go_wp2
  have hs0 : w.heap.size + 2 ≤ ((w.alloc (Obj.cells #[.string s] 9)).alloc (Obj.cells #[.int .i64 0] 3)).heap.size := by simp
  generalize ((w.alloc (Obj.cells #[Value.string s] 9)).alloc (Obj.cells #[.int .i64 0] 3)) = W0 at *
  go_loopw [6, 7] (fun l c wr => ∃ (L : List Rec) (k : Nat), c = .int .i64 (k : Int) ∧ Hid (k = (encs L).length ∧ Bs.of s = encs L ++ (Bs.of s).drop k) ∧ L.length ≤ k ∧ DRow wr (w.heap.size + 2) l L ∧ Tk wr (w.heap.size + 1) w.heap.size s k ∧ Below (w.heap.size + 1) W0 wr) (fun _ c _ => s.size - (intOf c).toNat)
  case atStart => exact ⟨[], 0, rfl, ⟨rfl, rfl⟩, Nat.le_refl _, DRow.nil _ _, T0, Below.refl _ _⟩
  case round =>
    obtain ⟨L, k, rfl, HK, hLk, D, T, b⟩ := hrel
    have HB := hid B0
    clear T0 B0
    have hkl := T.le
    have sz := b.size
    go_wp2_with fail
    refine (takeRecord_any wr _ _ s k T).mono ?_
    rintro e w1 ⟨F, k', T1, ⟨r, v, g, hd, o, rfl⟩ | ⟨hno, rfl⟩⟩
    · have D1 := D.fr F (by omega)
      have b1 := b.trans F.bel
      have o1 := own_mono o (show w.heap.size + 2 ≤ wr.heap.size by omega)
      have s1 := F.size
      have hk' := T1.le
      have HK' := hid (show k' = (encs (L ++ [r])).length ∧ Bs.of s = encs (L ++ [r]) ++ (Bs.of s).drop k' from by
        have h1 := congrArg List.length hd
        rw [List.length_drop, List.length_append, List.length_drop, of_len] at h1
        refine ⟨by rw [encs_snoc, List.length_append, ← HK.out.1]; omega, ?_⟩
        rw [encs_snoc, List.append_assoc, ← hd]
        exact HK.out.2)
      have hk2 : k + 5 ≤ k' := by
        have h1 := HK'.out.1
        rw [encs_snoc, List.length_append, ← HK.out.1] at h1
        have := enc_len r
        omega
      have HG := hid g
      clear D T b F hd o g
      unfold rv
      obtain ⟨va, vc, rfl⟩ := own_slice o1
      obtain ⟨hf, vs, q1, q2, q3⟩ := D1
      have HF := hid hf
      have HQ1 := hid q1
      have HQ3 := hid q3
      clear hf q1 q3
      have X1 := (Below.refl w1.heap.size w1).alloc (Nat.le_refl _) (Obj.cells #[.int .i64 r.kind, .string r.who, .slice va r.nums.length vc, .string r.text] 29)
      have q2' := (q2.alloc (Obj.cells #[.int .i64 r.kind, .string r.who, .slice va r.nums.length vc, .string r.text] 29)).alloc (Obj.cells #[.int .i64 r.kind, .string r.who, .slice va r.nums.length vc, .string r.text] 29)
      have o2 := (o1.alloc (Obj.cells #[.int .i64 r.kind, .string r.who, .slice va r.nums.length vc, .string r.text] 29)).alloc (Obj.cells #[.int .i64 r.kind, .string r.who, .slice va r.nums.length vc, .string r.text] 29)
      have hb2 : Below w1.heap.size w1 ((w1.alloc (Obj.cells #[.int .i64 r.kind, .string r.who, .slice va r.nums.length vc, .string r.text] 29)).alloc (Obj.cells #[.int .i64 r.kind, .string r.who, .slice va r.nums.length vc, .string r.text] 29)) := X1.alloc (by simp) _
      have T2 := T1.keep hb2
      have b2 := b1.trans (hb2.mono (by omega))
      go_wp2_with (at_builtin; refine wpList_append_own _ rfl _ _ 22 rfl (w.heap.size + 2) 29 i0 (.agg #[.int .i64 0, .string ⟨#[]⟩, .slice none 0 0, .string ⟨#[]⟩]) 4 64 Try.underlying22 hi hz0 hz1 hz2 rfl (by decide) _ _ _ rfl q2' ⟨w1.heap.size + 1, 0, none⟩ 1 1 [.int .i64 r.kind, .string r.who, .slice va r.nums.length vc, .string r.text] rfl rfl (fun j u hj => by have h4 := four_cells (w1.alloc (Obj.cells #[.int .i64 r.kind, .string r.who, .slice va r.nums.length vc, .string r.text] 29)) 29 _ _ _ _ j u hj; rw [World.size_alloc] at h4; exact h4) (by intro u hu; simp at hu; rcases hu with rfl | rfl | rfl | rfl <;> rfl) (by unfold maxLen; omega) (by omega) (by simp; omega) ?_)
      intro v' w3 o3 hgrow _
      have D3 : DRow w3 (w.heap.size + 2) v' (L ++ [r]) := DRow.snoc HF.out HQ1.out q2' (fun i hi hi' => ((HQ3.out i hi hi').alloc _).alloc _) HG.out o2 o3 hgrow
      have T3 : Tk w3 (w.heap.size + 1) w.heap.size s k' := T2.grown hgrow (B := w.heap.size + 2) (by omega) (fun g hg => (q2'.lt g hg).1)
      have b3 : Below (w.heap.size + 1) W0 w3 := b2.grown hgrow (by simp; omega) (fun g hg => by have := (q2'.lt g hg).1; omega)
      clear o3 hgrow q2' o2 T2 b2 hb2 X1 q2 T1 b1 o1
      have c0 := cell_at (L := [_]) T3.pb 0 _ rfl
      go_wp2
      go_roundw
      case rel => exact ⟨L ++ [r], k', rfl, HK'.out, by simp; omega, D3, T3, b3⟩
      case measure => simp [intOf]; omega
    · have D1 := D.fr F (by omega)
      have b1 := b.trans F.bel
      have s1 := F.size
      have HD := hid (show Dec (Bs.of s) L k from ⟨D.1, HK.out.1, _, HK.out.2, hno⟩)
      have X1 := (Below.refl w1.heap.size w1).alloc (Nat.le_refl _) (Obj.cells #[.int .i64 0, .string ⟨#[]⟩, .slice none 0 0, .string ⟨#[]⟩] 29)
      have HR := hid ((D1.below X1).row.mono (show w.heap.size ≤ w.heap.size + 2 by omega))
      have HBB := hid (HB.out.trans ((b1.trans (X1.mono (by omega))).mono (by omega)))
      clear D T b F hno D1 b1 X1 T1
      go_wp2
      exact bodyPost_ret (v := .tuple #[u6, .int .i64 (k : Int)]) (by simp [results, Try.results30, go_sem]) rfl ⟨_, _, _, rfl, HD.out, HR.out, HBB.out⟩
end Go.Proofs.Ytfpifjejooineaa.Rc
