/- market: what is changed alone; the closure that lays a variable. -/
import Derived.Test.YtlkcfgjhgmpbcaaK15A
import Derived.Maps.AppendAt
import Derived.RangeFuncNested
import Derived.RangeFuncBound
import Derived.RangeFuncCalls
import Derived.RangeFuncLeaves
import Derived.Shelf.Abstract
import Derived.Shelf.RegionOpen
import Derived.OwnWalkIn
import Derived.TacticsInMore
import Derived.LoopNIn
import Derived.LoopIn
namespace Go.Proofs.Ytlkcfgjhgmpbcaa
open Go.RowKit Go.Shelf
set_option linter.unusedVariables false
set_option maxRecDepth 100000
set_option linter.unusedSimpArgs false

/-- All is as it was, but for the blocks of S. -/
structure Kq (S : Nat → Prop) (w w' : World) : Prop where
  os : w'.os = w.os
  tape : w'.tape = w.tape
  output : w'.output = w.output
  size : w.heap.size ≤ w'.heap.size
  block : ∀ k, k < w.heap.size → ¬ S k → w'.heap[k]? = w.heap[k]?
theorem Kq.refl (S : Nat → Prop) (w : World) : Kq S w w := ⟨rfl, rfl, rfl, Nat.le_refl _, fun _ _ _ => rfl⟩
theorem Kq.trans {S : Nat → Prop} {a b c : World} (h : Kq S a b) (k : Kq S b c) : Kq S a c :=
  ⟨k.os.trans h.os, k.tape.trans h.tape, k.output.trans h.output, Nat.le_trans h.size k.size, fun i hi hs => (k.block i (Nat.lt_of_lt_of_le hi h.size) hs).trans (h.block i hi hs)⟩
theorem Kq.of_below {S : Nat → Prop} {a b : World} (h : Below a.heap.size a b) : Kq S a b := ⟨h.os, h.tape, h.output, h.size, fun k hk _ => h.block k hk⟩
theorem Kq.below {S : Nat → Prop} {a b : World} {B : Nat} (h : Kq S a b) (hB : B ≤ a.heap.size) (hS : ∀ k, k < B → ¬ S k) : Below B a b := ⟨h.os, h.tape, h.output, h.size, fun k hk => h.block k (by omega) (hS k hk)⟩
theorem Kq.weak {S S' : Nat → Prop} {a b : World} (h : Kq S a b) (hs : ∀ k, k < a.heap.size → S k → S' k) : Kq S' a b := ⟨h.os, h.tape, h.output, h.size, fun k hk hn => h.block k hk (fun e => hn (hs k hk e))⟩
theorem Kq.grown {S : Nat → Prop} {a b c : World} {row : Option Nat} (h : Kq S a b) (hg : b.grownBy c row) (hr : ∀ g, row = some g → S g ∨ a.heap.size ≤ g) : Kq S a c :=
  ⟨hg.os.trans h.os, hg.tape.trans h.tape, hg.output.trans h.output, Nat.le_trans h.size hg.size, fun k hk hs => (hg.block k (Nat.lt_of_lt_of_le hk h.size) (fun e => by
    rcases hr k e.symm with h1 | h1
    · exact hs h1
    · omega)).trans (h.block k hk hs)⟩
theorem Kq.set {S : Nat → Prop} {a b : World} (h : Kq S a b) (g i : Nat) (v : Value) (hg : S g ∨ a.heap.size ≤ g) : Kq S a (b.setCell ⟨g, i, none⟩ v) :=
  h.grown (grownBy_setCell' b g v |> fun k => ⟨rfl, rfl, rfl, by show _ ≤ (b.heap.modify _ _).size; rw [Array.size_modify]; exact Nat.le_refl _, fun k hk hn => Below.heap_setCell b ⟨g, i, none⟩ v k (fun e => hn (by rw [e]))⟩) (row := some g) (fun g' e => by cases e; exact hg)
theorem Kq.alloc {S : Nat → Prop} {a b : World} (h : Kq S a b) (o : Obj) : Kq S a (b.alloc o) := h.trans (Kq.of_below (ibel b o))
theorem Kq.cell {S : Nat → Prop} {a b : World} (h : Kq S a b) {p : Addr} {v : Value} (hp : a.cell? p = some v) (hs : ¬ S p.block) : b.cell? p = some v := by
  rw [← hp]
  exact World.cell?_of_block (h.block _ (World.block_lt_of_cell? a _ hp) hs)
theorem Kq.others {S : Nat → Prop} {a b : World} (h : Kq S a b) (hS : ∀ k, S k → ∃ c t fz, a.heap[k]? = some (.cells c t fz)) : KeepsOthers a b :=
  ⟨h.size, fun k o hk ho => (h.block k (Array.getElem?_eq_some_iff.1 hk).1 (fun e => by
    obtain ⟨c, t, fz, hc⟩ := hS k e
    rw [hc] at hk
    cases hk
    cases ho)).trans hk⟩
theorem own_kept {w w' : World} {B size : Nat} {e : TypeId} {v : Value} {n : Nat} {xs : List Value} {S : Nat → Prop} (h : w.ownsRow B e size v n xs) (k : Kq S w w') (hs : ∀ g, v.ownBlock = some g → ¬ S g) : w'.ownsRow B e size v n xs :=
  ⟨h.1, by
    rcases h.2 with hn | ⟨g, cap, cur, rfl, hb, hgg, rest⟩
    · exact .inl hn
    · exact .inr ⟨g, cap, cur, rfl, hb, (k.block g (lt_of_block hgg) (hs g rfl)).trans hgg, rest⟩⟩
theorem info_variable : (Try.prog.info? 48).map (fun i => (i.zero, i.size, i.bytes)) = some (some (.agg #[.int .i64 0, .int .i64 0, .int .i64 0, .int .i64 0, .int .i64 0]), 5, 40) := by kernel_rfl
theorem kparts {o : Option TypeInfo} {z : Value} {s b : Nat} (h : o.map (fun i => (i.zero, i.size, i.bytes)) = some (some z, s, b)) : ∃ i, o = some i ∧ i.zero = some z ∧ i.size = s ∧ i.bytes = b := by
  cases o with
  | none => cases h
  | some i =>
    simp only [Option.map_some, Option.some.injEq, Prod.mk.injEq] at h
    exact ⟨i, rfl, h.1, h.2.1, h.2.2⟩
theorem five_new (w : World) (v : Vr) (t : TypeId) : ∀ j u, (vrV v)[j]? = some u → (w.alloc (.cells #[.int .i64 v.f, .int .i64 v.t, .int .i64 v.lo, .int .i64 v.hi, .int .i64 v.wo] t)).cell? ((⟨w.heap.size, 0, none⟩ : Addr).add j) = some u := by
  intro j u hj
  rw [add_off, Nat.zero_add]
  exact cell_at (L := [.int .i64 v.f, .int .i64 v.t, .int .i64 v.lo, .int .i64 v.hi, .int .i64 v.wo]) (inew w _) j u hj
theorem kown_form {w : World} {base size : Nat} {e : TypeId} {v : Value} {n : Nat} {xs : List Value} (h : w.ownsRow base e size v n xs) : ∃ sa sc, v = .slice sa n sc := by
  rcases h.2 with ⟨rfl, rfl⟩ | ⟨g, cap, cur, rfl, _⟩
  · exact ⟨none, 0, rfl⟩
  · exact ⟨_, cap, rfl⟩
/-- The variables under way: the box b7 that the closure has, and the row in it. -/
structure Vw (w : World) (base b7 : Nat) (X : List Vr) (lv : Value) : Prop where
  box : w.heap[b7]? = some (.cells #[lv] 45 (0, 0))
  row : Wr vrV 5 48 w base lv X
theorem Vw.ne {w : World} {base b7 : Nat} {X : List Vr} {lv : Value} (h : Vw w base b7 X lv) : lv.ownBlock ≠ some b7 := fun e => by
  obtain ⟨c, fz, hc⟩ := own_kindN h.row.own b7 e
  rw [h.box] at hc
  simp at hc
theorem Vw.kept {w w' : World} {base b7 : Nat} {X : List Vr} {lv : Value} {S : Nat → Prop} (h : Vw w base b7 X lv) (k : Kq S w w') (h1 : ¬ S b7) (h2 : ∀ g, lv.ownBlock = some g → ¬ S g) : Vw w' base b7 X lv :=
  ⟨(k.block b7 (lt_of_block h.box) h1).trans h.box, own_kept h.row.own k h2, h.row.n_⟩
set_option maxHeartbeats 3200000 in
theorem lay_any (w : World) (base b7 : Nat) (X : List Vr) (lv : Value) (v : Vr) (h : Vw w base b7 X lv) (hX : X.length ≤ 4096) (hb : base ≤ w.heap.size) :
    Calls Try.prog 22 #[.int .i64 v.f, .int .i64 v.t, .int .i64 v.lo, .int .i64 v.hi, .int .i64 v.wo, .pointer (some ⟨b7, 0, none⟩)] w fun e w' => (∃ u, e = .returned u) ∧ ∃ lv', Vw w' base b7 (X ++ [v]) lv' ∧ Kq (fun k => k = b7 ∨ lv.ownBlock = some k) w w' := by
  obtain ⟨i0, hi0, hz0, hz1, hz2⟩ := kparts info_variable
  obtain ⟨sa, sc, rfl⟩ := kown_form h.row.own
  have HN := hid h.ne
  have HW := hid h
  have c0 := cell_at (L := [_]) h.box 0 _ rfl
  have f0 := free_at (L := [_]) h.box 0
  have hb7 := lt_of_block h.box
  clear h
  go_enter Try.func22, Try.ntmps22
  have hown := HW.out.row.own.alloc (Obj.cells #[.int .i64 v.f, .int .i64 v.t, .int .i64 v.lo, .int .i64 v.hi, .int .i64 v.wo] 48)
  have HA := hid ((Kq.refl (fun k => k = b7 ∨ (Value.slice sa X.length sc).ownBlock = some k) w).alloc (Obj.cells #[.int .i64 v.f, .int .i64 v.t, .int .i64 v.lo, .int .i64 v.hi, .int .i64 v.wo] 48))
  have HBX := hid (show (w.alloc (Obj.cells #[.int .i64 v.f, .int .i64 v.t, .int .i64 v.lo, .int .i64 v.hi, .int .i64 v.wo] 48)).heap[b7]? = some (.cells #[.slice sa X.length sc] 45 (0, 0)) from ((ibel w _).block b7 hb7).trans HW.out.box)
  have HF := hid (five_new w v 48)
  go_wp2_with (first | (at_builtin; refine wpList_append_own_at _ rfl _ _ 45 rfl base 48 i0 (.agg #[.int .i64 0, .int .i64 0, .int .i64 0, .int .i64 0, .int .i64 0]) 5 40 Try.underlying45 hi0 hz0 hz1 hz2 rfl (by decide) (.slice sa X.length sc) X.length _ rfl hown ⟨w.heap.size, 0, none⟩ 1 1 (vrV v) rfl rfl HF.out (by intro u hu; simp [vrV] at hu; rcases hu with rfl | rfl | rfl | rfl | rfl <;> rfl) (by unfold maxLen; omega) (by omega) (by simp; omega) ?_) | fail)
  intro v' Y5 o5 hg5 _ hat5
  obtain ⟨qa, qc, rfl⟩ := kown_form o5
  have hbx5 := (hg5.block b7 (by simp; omega) (fun e => HN.out e.symm)).trans HBX.out
  have c5 := cell_at (L := [_]) hbx5 0 _ rfl
  have f5 := free_at (L := [_]) hbx5 0
  have K5 := HA.out.grown hg5 (fun g hg => Or.inl (Or.inr hg))
  have HR5 := hid (HW.out.row)
  have K6 := hid (K5.set b7 0 (.slice qa (X.length + 1) qc) (Or.inl (Or.inl rfl)))
  have hB6 := set_at (L := [_]) (k := 0) (v := .slice qa (X.length + 1) qc) hbx5
  have o6 : Hid ((Y5.setCell ⟨b7, 0, none⟩ (.slice qa (X.length + 1) qc)).ownsRow base 48 5 (.slice qa (X.length + 1) qc) (X.length + 1) ((X.map vrV).flatten ++ vrV v)) := hid (ownsRow_setCell_other o5 (a := ⟨b7, 0, none⟩) (fun e => by
    obtain ⟨c, fz, hc⟩ := own_kindN o5 b7 e
    rw [hbx5] at hc
    simp at hc) (.slice qa (X.length + 1) qc))
  have hB6' : Hid ((Y5.setCell ⟨b7, 0, none⟩ (.slice qa (X.length + 1) qc)).heap[b7]? = some (.cells #[.slice qa (X.length + 1) qc] 45 (0, 0))) := hid (by simpa using hB6)
  have HRN := hid (fun s => HR5.out.n_ s)
  clear o5 hg5 hat5 hown HA HBX hbx5 K5 HR5 HF hB6
  go_wp2_with fail
  first
    | go_end0
    | (refine bodyPost_ret (results_none rfl _ _ _) rfl ?_)
  exact ⟨⟨_, rfl⟩, _, ⟨hB6'.out, by rw [List.length_append, List.map_append, List.flatten_append]; simpa using o6.out, HRN.out⟩, K6.out⟩
end Go.Proofs.Ytlkcfgjhgmpbcaa
