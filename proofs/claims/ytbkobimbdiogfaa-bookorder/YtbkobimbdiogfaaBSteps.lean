/- The Adds that came in. -/
import Derived.Test.YtbkobimbdiogfaaBBook
import Derived.Deep.Slices
import Derived.ProofKit
import Derived.OpenShut
namespace Go.Proofs.Ytbkobimbdiogfaa
open Go.RowKit Go.Deep
set_option linter.unusedVariables false
set_option maxRecDepth 100000
set_option linter.unusedSimpArgs false

/-- An Ask as it came in. -/
structure Kb where
  kind : Int
  cents : Int
  seq : Int
  swho : ByteArray
  sseq : Int
  szone : Int
  shour : Int
  sbuy : Bool
  sqty : Int
  sprice : Int
  bwho : ByteArray
  bseq : Int
  bzone : Int
  bbuy : Bool
  bprice : Int
  qv : Value
  Q : List Int
  parent : Int
  group : Int
def kb0 : Kb := ⟨0, 0, 0, ByteArray.empty, 0, 0, 0, false, 0, 0, ByteArray.empty, 0, 0, false, 0, .slice none 0 0, [], 0, 0⟩
def kbC (z : Kb) : Array Value := #[.int .i64 z.kind, .int .i64 z.cents, .int .i64 z.seq, .string z.swho, .int .i64 z.sseq, .int .i64 z.szone, .int .i64 z.shour, .bool z.sbuy, .int .i64 z.sqty, .int .i64 z.sprice, .string z.bwho, .int .i64 z.bseq, .int .i64 z.bzone, .bool z.bbuy, .int .i64 z.bprice, z.qv, .int .i64 z.parent, .int .i64 z.group]
structure KbFits (w : World) (z : Kb) : Prop where
  kind : In64 z.kind
  cents : In64 z.cents
  seq : In64 z.seq
  sseq : In64 z.sseq
  szone : In64 z.szone
  shour : In64 z.shour
  sqty : In64 z.sqty
  sprice : In64 z.sprice
  bseq : In64 z.bseq
  bzone : In64 z.bzone
  bprice : In64 z.bprice
  parent : In64 z.parent
  group : In64 z.group
  ints : Ints w z.qv z.Q
  each : ∀ q ∈ z.Q, In64 q
/-- The Add of z lies at b, off. -/
structure KbAt (w : World) (b off : Nat) (z : Kb) : Prop where
  who : ∃ x : ByteArray, x.size ≤ 9223372036854775807 ∧ w.cell? ⟨b, off, none⟩ = some (.string x)
  ask : ∀ j v, (kbC z)[j]? = some v → w.cell? ⟨b, off + 1 + j, none⟩ = some v
/-- A slice of Adds that came in. -/
def IsKbs (w : World) (a : Option Addr) (len cap : Nat) (z : Nat → Kb) : Prop :=
  (a = none ∧ len = 0 ∧ cap = 0) ∨
  (len = 0 ∧ cap ≤ maxLen) ∨ ∃ b off, a = some ⟨b, off, none⟩ ∧ len ≤ cap ∧ cap ≤ maxLen ∧ ∀ i, i < len → KbAt w b (off + i * 19) (z i) ∧ KbFits w (z i)
theorem kb_cells : Try.prog.cellsOf 48 = 19 := by kernel_rfl
theorem kb_ask : Try.prog.cellsOf 28 = 18 := by kernel_rfl
theorem kb_step : Try.prog.cellsOf 23 = 7 := by kernel_rfl
theorem kb_block : Try.prog.cellsOf 26 = 8 := by kernel_rfl
theorem kb_int : Try.prog.cellsOf 3 = 1 := by kernel_rfl
theorem kb_bool : Try.prog.cellsOf 4 = 1 := by kernel_rfl
theorem kb_str : Try.prog.cellsOf 9 = 1 := by kernel_rfl
theorem kb_ints : Try.prog.cellsOf 24 = 1 := by kernel_rfl
section
variable {H : Type} {enc : TypeId × Value → H} {W : World} {base : Nat} {spare : Nat → Bool} {held : Bool}
theorem kints_in {v : Value} {fuel : Nat} {y : DataW H × List MemPlace} (h : DataW.trod enc Try.prog W base spare held fuel 24 [v] = some y) : ∃ L, Ints W v L ∧ ∀ q ∈ L, In64 q := by
  rcases ChangeShapes.open_ints Try.underlying24 Try.underlying3 (by kernel_rfl) h with ⟨hcs, _⟩ | ⟨x, l, c, zs, hcs, _, hl, hm, hz, _, hcell, hwz⟩
  · simp only [List.cons.injEq, and_true] at hcs
    subst hcs
    exact ⟨[], Row1.nil W, by simp⟩
  · simp only [List.cons.injEq, and_true] at hcs
    subst hcs
    have hlz : l ≤ zs.length := by rw [hz]; split <;> omega
    have hlen : (zs.take l).length = l := by rw [List.length_take]; omega
    have hin : ∀ q ∈ zs.take l, In64 q := fun q hq => by
      have hq' := List.mem_of_mem_take hq
      obtain ⟨i, hi, rfl⟩ := List.getElem_of_mem hq'
      have := hwz _ hq'
      have := bounds_i64 this
      unfold In64; omega
    refine ⟨zs.take l, ⟨some x, c, by rw [intV_len, hlen], by rw [intV_len]; omega, hm, ?_⟩, hin⟩
    by_cases h0 : l = 0
    · left; subst h0; simp [intV]
    · right
      obtain ⟨b, off, sp⟩ := x
      cases sp with
      | none =>
        refine ⟨b, off, rfl, fun i hi => ?_⟩
        rw [intV_len, hlen] at hi
        have := hcell i (by omega)
        rw [add_off] at this
        rw [this, intV_at _ _ (by omega), List.getElem_take]
        simp [show i < zs.length by omega]
      | some q =>
        have g0 := hcell 0 (by omega)
        unfold World.cell? at g0
        simp [Addr.add] at g0
        split at g0 <;> simp_all
theorem kint_in {v : Value} {fuel : Nat} {y : DataW H × List MemPlace} (h : DataW.trod enc Try.prog W base spare held fuel 3 [v] = some y) : ∃ n, v = .int .i64 n ∧ In64 n := by
  obtain ⟨n0, q0, _, b0⟩ := DataW.trod_int Try.underlying3 h
  simp only [List.cons.injEq, and_true] at q0
  have c0 := bounds_i64 b0
  exact ⟨n0, q0, by unfold In64; omega⟩
theorem kstr_in {v : Value} {fuel : Nat} {y : DataW H × List MemPlace} (h : DataW.trod enc Try.prog W base spare held fuel 9 [v] = some y) : ∃ n : ByteArray, v = .string n ∧ n.size ≤ 9223372036854775807 := by
  obtain ⟨n0, q0, _, b0⟩ := DataW.trod_string Try.underlying9 h
  simp only [List.cons.injEq, and_true] at q0
  unfold maxLen at b0
  exact ⟨n0, q0, b0⟩
theorem kbool_in {v : Value} {fuel : Nat} {y : DataW H × List MemPlace} (h : DataW.trod enc Try.prog W base spare held fuel 4 [v] = some y) : ∃ n : Bool, v = .bool n := by
  obtain ⟨n0, q0, _⟩ := DataW.trod_bool Try.underlying4 h
  simp only [List.cons.injEq, and_true] at q0
  exact ⟨n0, q0⟩
theorem kstep_in {cs : List Value} {fuel : Nat} {y : DataW H × List MemPlace} (h : DataW.trod enc Try.prog W base spare held fuel 23 cs = some y) :
    ∃ (a : ByteArray) (b c d : Int) (e : Bool) (f g : Int), cs = [.string a, .int .i64 b, .int .i64 c, .int .i64 d, .bool e, .int .i64 f, .int .i64 g] ∧ In64 b ∧ In64 c ∧ In64 d ∧ In64 f ∧ In64 g := by
  obtain ⟨xs, n, hk, hxy, hlen, hxl, hf⟩ := DataW.trod_struct Try.underlying23 h
  rw [kb_step] at hlen
  match xs, hxl, cs, hlen with
  | [y0, y1, y2, y3, y4, y5, y6], _, [v0, v1, v2, v3, v4, v5, v6], _ =>
    have g0 := hf 0 _ rfl
    have g1 := hf 1 _ rfl
    have g2 := hf 2 _ rfl
    have g3 := hf 3 _ rfl
    have g4 := hf 4 _ rfl
    have g5 := hf 5 _ rfl
    have g6 := hf 6 _ rfl
    simp [kb_int, kb_str, kb_bool] at g0 g1 g2 g3 g4 g5 g6
    obtain ⟨n0, rfl, _⟩ := kstr_in g0
    obtain ⟨n1, rfl, b1⟩ := kint_in g1
    obtain ⟨n2, rfl, b2⟩ := kint_in g2
    obtain ⟨n3, rfl, b3⟩ := kint_in g3
    obtain ⟨n4, rfl⟩ := kbool_in g4
    obtain ⟨n5, rfl, b5⟩ := kint_in g5
    obtain ⟨n6, rfl, b6⟩ := kint_in g6
    exact ⟨n0, n1, n2, n3, n4, n5, n6, rfl, b1, b2, b3, b5, b6⟩
theorem kblock_in {cs : List Value} {fuel : Nat} {y : DataW H × List MemPlace} (h : DataW.trod enc Try.prog W base spare held fuel 26 cs = some y) :
    ∃ (a : ByteArray) (b c : Int) (d : Bool) (e : Int) (f : Value) (Q : List Int) (g k : Int), cs = [.string a, .int .i64 b, .int .i64 c, .bool d, .int .i64 e, f, .int .i64 g, .int .i64 k] ∧ In64 b ∧ In64 c ∧ In64 e ∧ In64 g ∧ In64 k ∧ Ints W f Q ∧ ∀ q ∈ Q, In64 q := by
  obtain ⟨xs, n, hk, hxy, hlen, hxl, hf⟩ := DataW.trod_struct Try.underlying26 h
  rw [kb_block] at hlen
  match xs, hxl, cs, hlen with
  | [y0, y1, y2, y3, y4, y5, y6, y7], _, [v0, v1, v2, v3, v4, v5, v6, v7], _ =>
    have g0 := hf 0 _ rfl
    have g1 := hf 1 _ rfl
    have g2 := hf 2 _ rfl
    have g3 := hf 3 _ rfl
    have g4 := hf 4 _ rfl
    have g5 := hf 5 _ rfl
    have g6 := hf 6 _ rfl
    have g7 := hf 7 _ rfl
    simp [kb_int, kb_str, kb_bool, kb_ints] at g0 g1 g2 g3 g4 g5 g6 g7
    obtain ⟨n0, rfl, _⟩ := kstr_in g0
    obtain ⟨n1, rfl, b1⟩ := kint_in g1
    obtain ⟨n2, rfl, b2⟩ := kint_in g2
    obtain ⟨n3, rfl⟩ := kbool_in g3
    obtain ⟨n4, rfl, b4⟩ := kint_in g4
    obtain ⟨Q, b5, c5⟩ := kints_in g5
    obtain ⟨n6, rfl, b6⟩ := kint_in g6
    obtain ⟨n7, rfl, b7⟩ := kint_in g7
    exact ⟨n0, n1, n2, n3, n4, v5, Q, n6, n7, rfl, b1, b2, b4, b6, b7, b5, c5⟩
theorem kask_in {cs : List Value} {fuel : Nat} {y : DataW H × List MemPlace} (h : DataW.trod enc Try.prog W base spare held fuel 28 cs = some y) : ∃ z : Kb, cs = (kbC z).toList ∧ KbFits W z := by
  obtain ⟨xs, n, hk, hxy, hlen, hxl, hf⟩ := DataW.trod_struct Try.underlying28 h
  rw [kb_ask] at hlen
  match xs, hxl, cs, hlen with
  | [y0, y1, y2, y3, y4], _, [v0, v1, v2, v3, v4, v5, v6, v7, v8, v9, v10, v11, v12, v13, v14, v15, v16, v17], _ =>
    have g0 := hf 0 _ rfl
    have g1 := hf 1 _ rfl
    have g2 := hf 2 _ rfl
    have g3 := hf 3 _ rfl
    have g4 := hf 4 _ rfl
    simp [kb_int, kb_step, kb_block] at g0 g1 g2 g3 g4
    obtain ⟨n0, rfl, b0⟩ := kint_in g0
    obtain ⟨n1, rfl, b1⟩ := kint_in g1
    obtain ⟨n2, rfl, b2⟩ := kint_in g2
    obtain ⟨s0, s1, s2, s3, s4, s5, s6, e3, t1, t2, t3, t5, t6⟩ := kstep_in g3
    obtain ⟨q0, q1, q2, q3, q4, q5, Q, q6, q7, e4, r1, r2, r4, r6, r7, rI, rE⟩ := kblock_in g4
    simp only [List.cons.injEq, and_true] at e3 e4
    obtain ⟨rfl, rfl, rfl, rfl, rfl, rfl, rfl⟩ := e3
    obtain ⟨rfl, rfl, rfl, rfl, rfl, rfl, rfl, rfl⟩ := e4
    exact ⟨⟨n0, n1, n2, s0, s1, s2, s3, s4, s5, s6, q0, q1, q2, q3, q4, v15, Q, q6, q7⟩, rfl, ⟨b0, b1, b2, t1, t2, t3, t5, t6, r1, r2, r4, r6, r7, rI, rE⟩⟩
theorem kb_of {x : Addr} {k : Nat} {cs : List Value} {fuel : Nat} {y : DataW H × List MemPlace} (h1 : W.cells? base (x.add (k * 19)) 19 = some cs) (h2 : DataW.trod enc Try.prog W base spare held fuel 48 cs = some y) :
    ∃ z : Kb, (∃ n : ByteArray, n.size ≤ 9223372036854775807 ∧ W.cell? (x.add (k * 19)) = some (.string n)) ∧ (∀ j v, (kbC z)[j]? = some v → W.cell? (x.add (k * 19 + 1 + j)) = some v) ∧ KbFits W z := by
  obtain ⟨_, hlen, hcell⟩ := World.cells?_some h1
  obtain ⟨xs, n, hk, hxy, _, hxl, hf⟩ := DataW.trod_struct Try.underlying48 h2
  match xs, hxl, cs, hlen with
  | [y0, y1], _, v0 :: cs, hlen =>
    have g0 := hf 0 _ rfl
    have g1 := hf 1 _ rfl
    have hl : cs.length = 18 := by simpa using hlen
    simp [kb_str, kb_ask, ← hl] at g0 g1
    obtain ⟨n0, rfl, b0⟩ := kstr_in g0
    obtain ⟨z, rfl, hz⟩ := kask_in g1
    refine ⟨z, ⟨n0, b0, by have := hcell 0 (by omega); rw [add_add] at this; simpa using this⟩, fun j v hv => ?_, hz⟩
    have hj : j < 18 := by
      have := (Array.getElem?_eq_some_iff.1 hv).1
      exact this
    have e1 := hcell (j + 1) (by omega)
    rw [add_add] at e1
    rw [show k * 19 + 1 + j = k * 19 + (j + 1) by omega, e1]
    rw [List.getElem?_cons_succ, Array.getElem?_toList]
    exact hv
theorem kbs_of {a : Option Addr} {len cap : Nat} {d : DataW H} {ps : List MemPlace} (h : DataW.Trod enc Try.prog W base spare held 37 (.slice a len cap) d ps) : ∃ z, IsKbs W a len cap z := by
  obtain ⟨fuel, hf⟩ := h
  rcases open_slice Try.underlying37 hf with ⟨hcs, _⟩ | ⟨x, l, c, m, n, D, Pl, hcs, _, hl, hm, hmm, _, hx⟩
  · simp [Value.cells] at hcs
    obtain ⟨rfl, rfl, rfl⟩ := hcs
    exact ⟨fun _ => kb0, Or.inl ⟨rfl, rfl, rfl⟩⟩
  · simp [Value.cells] at hcs
    obtain ⟨rfl, rfl, rfl⟩ := hcs
    have hlm : len ≤ m := by rw [hmm]; split <;> omega
    by_cases h0 : len = 0
    · exact ⟨fun _ => kb0, Or.inr (Or.inl ⟨h0, hm⟩)⟩
    · have hv : ∀ i, i < len → ∃ z : Kb, (∃ n : ByteArray, n.size ≤ 9223372036854775807 ∧ W.cell? (x.add (i * 19)) = some (.string n)) ∧ (∀ j v, (kbC z)[j]? = some v → W.cell? (x.add (i * 19 + 1 + j)) = some v) ∧ KbFits W z := by
        intro i hi
        obtain ⟨cs', h1, h2⟩ := hx i (by omega)
        rw [kb_cells] at h1
        exact kb_of h1 h2
      haveI : Inhabited Kb := ⟨kb0⟩
      obtain ⟨z, hz⟩ := choose_lt hv
      obtain ⟨b, off, sp⟩ := x
      cases sp with
      | none =>
        refine ⟨z, Or.inr (Or.inr ⟨b, off, rfl, hl, hm, fun i hi => ?_⟩)⟩
        obtain ⟨⟨n, g0, g1⟩, g2, g3⟩ := hz i hi
        rw [add_off] at g1
        refine ⟨⟨⟨n, g0, g1⟩, fun j v hj => ?_⟩, g3⟩
        have := g2 j v hj
        rw [add_off] at this
        rw [← this]
        congr 2; omega
      | some q =>
        obtain ⟨⟨n, _, g0⟩, _⟩ := hz 0 (by omega)
        unfold World.cell? at g0
        simp [Addr.add] at g0
        split at g0 <;> simp_all
end
theorem KbAt.cell {w : World} {b off : Nat} {z : Kb} (h : KbAt w b off z) (j : Nat) (v : Value) (hj : (kbC z)[j]? = some v) : w.cell? ⟨b, off + 1 + j, none⟩ = some v := h.ask j v hj
theorem KbAt.kx {S : Nat → Prop} {w W : World} {b off : Nat} {z : Kb} (h : KbAt w b off z) (k : Kx S w W) (hs : ¬ S b) : KbAt W b off z := by
  obtain ⟨x, hx, e⟩ := h.who
  exact ⟨⟨x, hx, k.cell e hs⟩, fun j v hj => k.cell (h.ask j v hj) hs⟩
theorem IsKbs.at {w : World} {a : Option Addr} {len cap : Nat} {z : Nat → Kb} (h : IsKbs w a len cap z) (i : Nat) (hi : i < len) :
    ∃ b off, a = some ⟨b, off, none⟩ ∧ KbAt w b (off + i * 19) (z i) ∧ KbFits w (z i) ∧ len ≤ cap ∧ cap ≤ 9223372036854775807 ∧ b < w.heap.size := by
  rcases h with ⟨_, h, _⟩ | ⟨h, _⟩ | ⟨b, off, rfl, h1, h2, h3⟩
  · omega
  · omega
  · unfold maxLen at h2
    obtain ⟨x, _, e⟩ := (h3 i hi).1.who
    exact ⟨b, off, rfl, (h3 i hi).1, (h3 i hi).2, h1, by omega, World.block_lt_of_cell? w _ e⟩
theorem IsKbs.len {w : World} {a : Option Addr} {len cap : Nat} {z : Nat → Kb} (h : IsKbs w a len cap z) : len ≤ cap ∧ cap ≤ 9223372036854775807 := by
  rcases h with ⟨_, h, h'⟩ | ⟨h, h'⟩ | ⟨b, off, rfl, h1, h2, h3⟩
  · omega
  · unfold maxLen at h'; omega
  · unfold maxLen at h2; omega
/-- An Ask's cells, loaded from where they lie. -/
@[go_sem ↓] theorem run_cells18s (P : Program) (b o : Nat) (w : World) :
    (loadCellsFrom ⟨b, o + 1, none⟩ 0 18 #[]).run P w = if ((w.cell? ⟨b, o + 1, none⟩).isSome && (w.cell? ⟨b, o + 2, none⟩).isSome && (w.cell? ⟨b, o + 3, none⟩).isSome && (w.cell? ⟨b, o + 4, none⟩).isSome && (w.cell? ⟨b, o + 5, none⟩).isSome && (w.cell? ⟨b, o + 6, none⟩).isSome && (w.cell? ⟨b, o + 7, none⟩).isSome && (w.cell? ⟨b, o + 8, none⟩).isSome && (w.cell? ⟨b, o + 9, none⟩).isSome && (w.cell? ⟨b, o + 10, none⟩).isSome && (w.cell? ⟨b, o + 11, none⟩).isSome && (w.cell? ⟨b, o + 12, none⟩).isSome && (w.cell? ⟨b, o + 13, none⟩).isSome && (w.cell? ⟨b, o + 14, none⟩).isSome && (w.cell? ⟨b, o + 15, none⟩).isSome && (w.cell? ⟨b, o + 16, none⟩).isSome && (w.cell? ⟨b, o + 17, none⟩).isSome && (w.cell? ⟨b, o + 18, none⟩).isSome) = true then .ok #[(w.cell? ⟨b, o + 1, none⟩).getD undef, (w.cell? ⟨b, o + 2, none⟩).getD undef, (w.cell? ⟨b, o + 3, none⟩).getD undef, (w.cell? ⟨b, o + 4, none⟩).getD undef, (w.cell? ⟨b, o + 5, none⟩).getD undef, (w.cell? ⟨b, o + 6, none⟩).getD undef, (w.cell? ⟨b, o + 7, none⟩).getD undef, (w.cell? ⟨b, o + 8, none⟩).getD undef, (w.cell? ⟨b, o + 9, none⟩).getD undef, (w.cell? ⟨b, o + 10, none⟩).getD undef, (w.cell? ⟨b, o + 11, none⟩).getD undef, (w.cell? ⟨b, o + 12, none⟩).getD undef, (w.cell? ⟨b, o + 13, none⟩).getD undef, (w.cell? ⟨b, o + 14, none⟩).getD undef, (w.cell? ⟨b, o + 15, none⟩).getD undef, (w.cell? ⟨b, o + 16, none⟩).getD undef, (w.cell? ⟨b, o + 17, none⟩).getD undef, (w.cell? ⟨b, o + 18, none⟩).getD undef] w else cellsSlow P ⟨b, o + 1, none⟩ 18 w := by
  split
  · rename_i h
    simp only [Bool.and_eq_true] at h
    obtain ⟨⟨⟨⟨⟨⟨⟨⟨⟨⟨⟨⟨⟨⟨⟨⟨⟨h0, h1⟩, h2⟩, h3⟩, h4⟩, h5⟩, h6⟩, h7⟩, h8⟩, h9⟩, h10⟩, h11⟩, h12⟩, h13⟩, h14⟩, h15⟩, h16⟩, h17⟩ := h
    obtain ⟨v0, e0⟩ := Option.isSome_iff_exists.1 h0
    obtain ⟨v1, e1⟩ := Option.isSome_iff_exists.1 h1
    obtain ⟨v2, e2⟩ := Option.isSome_iff_exists.1 h2
    obtain ⟨v3, e3⟩ := Option.isSome_iff_exists.1 h3
    obtain ⟨v4, e4⟩ := Option.isSome_iff_exists.1 h4
    obtain ⟨v5, e5⟩ := Option.isSome_iff_exists.1 h5
    obtain ⟨v6, e6⟩ := Option.isSome_iff_exists.1 h6
    obtain ⟨v7, e7⟩ := Option.isSome_iff_exists.1 h7
    obtain ⟨v8, e8⟩ := Option.isSome_iff_exists.1 h8
    obtain ⟨v9, e9⟩ := Option.isSome_iff_exists.1 h9
    obtain ⟨v10, e10⟩ := Option.isSome_iff_exists.1 h10
    obtain ⟨v11, e11⟩ := Option.isSome_iff_exists.1 h11
    obtain ⟨v12, e12⟩ := Option.isSome_iff_exists.1 h12
    obtain ⟨v13, e13⟩ := Option.isSome_iff_exists.1 h13
    obtain ⟨v14, e14⟩ := Option.isSome_iff_exists.1 h14
    obtain ⟨v15, e15⟩ := Option.isSome_iff_exists.1 h15
    obtain ⟨v16, e16⟩ := Option.isSome_iff_exists.1 h16
    obtain ⟨v17, e17⟩ := Option.isSome_iff_exists.1 h17
    rw [e0, e1, e2, e3, e4, e5, e6, e7, e8, e9, e10, e11, e12, e13, e14, e15, e16, e17]
    exact run_loadCells_list w ⟨b, o + 1, none⟩ [v0, v1, v2, v3, v4, v5, v6, v7, v8, v9, v10, v11, v12, v13, v14, v15, v16, v17] (fun j v hv => by
      rw [Addr.add_mid]
      match j, hv with
      | 0, hv => rw [Nat.add_zero, e0]; exact hv
      | 1, hv => rw [show o + 1 + 1 = o + 2 from by omega, e1]; exact hv
      | 2, hv => rw [show o + 1 + 2 = o + 3 from by omega, e2]; exact hv
      | 3, hv => rw [show o + 1 + 3 = o + 4 from by omega, e3]; exact hv
      | 4, hv => rw [show o + 1 + 4 = o + 5 from by omega, e4]; exact hv
      | 5, hv => rw [show o + 1 + 5 = o + 6 from by omega, e5]; exact hv
      | 6, hv => rw [show o + 1 + 6 = o + 7 from by omega, e6]; exact hv
      | 7, hv => rw [show o + 1 + 7 = o + 8 from by omega, e7]; exact hv
      | 8, hv => rw [show o + 1 + 8 = o + 9 from by omega, e8]; exact hv
      | 9, hv => rw [show o + 1 + 9 = o + 10 from by omega, e9]; exact hv
      | 10, hv => rw [show o + 1 + 10 = o + 11 from by omega, e10]; exact hv
      | 11, hv => rw [show o + 1 + 11 = o + 12 from by omega, e11]; exact hv
      | 12, hv => rw [show o + 1 + 12 = o + 13 from by omega, e12]; exact hv
      | 13, hv => rw [show o + 1 + 13 = o + 14 from by omega, e13]; exact hv
      | 14, hv => rw [show o + 1 + 14 = o + 15 from by omega, e14]; exact hv
      | 15, hv => rw [show o + 1 + 15 = o + 16 from by omega, e15]; exact hv
      | 16, hv => rw [show o + 1 + 16 = o + 17 from by omega, e16]; exact hv
      | 17, hv => rw [show o + 1 + 17 = o + 18 from by omega, e17]; exact hv
      | j + 18, hv => simp at hv)
  · rfl
theorem ints_kx {S : Nat → Prop} {w W : World} {v : Value} {L : List Int} (h : Ints w v L) (k : Kx S w W) (hs : ∀ b off n c, v = .slice (some ⟨b, off, none⟩) n c → ¬ S b) : Ints W v L := Row1.kx h k hs
theorem KbFits.below {w W : World} {z : Kb} (h : KbFits w z) (k : Below w.heap.size w W) : KbFits W z := { h with ints := h.ints.below k }
end Go.Proofs.Ytbkobimbdiogfaa
