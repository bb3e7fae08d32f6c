/- A book in memory. -/
import Derived.Test.YtbkobimbdiogfaaBMap
namespace Go.Proofs.Ytbkobimbdiogfaa
open Go.RowKit Go.MapKept
open Go.Maps (Keyed)
open Go.ChangeMaps (setBlock heap_setBlock_same heap_setBlock_other)
set_option linter.unusedVariables false
set_option maxRecDepth 100000
set_option linter.unusedSimpArgs false

def nm0 : ByteArray := ⟨#[]⟩
/-- An order that lives. -/
inductive Od where
  | step (seq zone hour : Int) (buy : Bool) (qty price : Int)
  | block (seq zone : Int) (buy : Bool) (price : Int) (Q : List Int) (parent group : Int)
def Od.seq : Od → Int | .step s _ _ _ _ _ => s | .block s _ _ _ _ _ _ => s
def Od.kind : Od → Int | .step .. => 2 | .block .. => 3
def Od.len : Od → Nat | .step .. => 0 | .block _ _ _ _ Q _ _ => Q.length
def Od.parent : Od → Int | .step .. => 0 | .block _ _ _ _ _ p _ => p
/-- The cells of an order as an Ask. -/
def odC (who : ByteArray) (qv : Value) : Od → Array Value
  | .step s z h b q p => #[.int .i64 2, .int .i64 0, .int .i64 0, .string who, .int .i64 s, .int .i64 z, .int .i64 h, .bool b, .int .i64 q, .int .i64 p, .string ⟨#[]⟩, .int .i64 0, .int .i64 0, .bool false, .int .i64 0, .slice none 0 0, .int .i64 0, .int .i64 0]
  | .block s z b p Q pa g => #[.int .i64 3, .int .i64 0, .int .i64 0, .string ⟨#[]⟩, .int .i64 0, .int .i64 0, .int .i64 0, .bool false, .int .i64 0, .int .i64 0, .string who, .int .i64 s, .int .i64 z, .bool b, .int .i64 p, qv, .int .i64 pa, .int .i64 g]
def zeroAsk : Value := .agg #[.int .i64 0, .int .i64 0, .int .i64 0, .string ⟨#[]⟩, .int .i64 0, .int .i64 0, .int .i64 0, .bool false, .int .i64 0, .int .i64 0, .string ⟨#[]⟩, .int .i64 0, .int .i64 0, .bool false, .int .i64 0, .slice none 0 0, .int .i64 0, .int .i64 0]
theorem zero_Ask (w : World) : (zeroValue 28).run Try.prog w = .ok zeroAsk w := by kernel_rfl
theorem zero_account (w : World) : (zeroValue 76).run Try.prog w = .ok (.agg #[.int .i64 0, .int .i64 0, .slice none 0 0]) w := by kernel_rfl
/-- What a participant's Adds have come to. -/
structure Ps where
  locked : Int
  asks : Int
  seqs : List Int
  live : Int → Option Od
def ps0 : Ps := ⟨0, 0, [], fun _ => none⟩
def In64 (x : Int) : Prop := -9223372036854775808 ≤ x ∧ x < 9223372036854775808
structure Sane (p : Ps) : Prop where
  asks : 0 ≤ p.asks ∧ p.asks ≤ 24
  locked : 0 ≤ p.locked ∧ p.locked ≤ p.asks * 1000000000
  many : (p.seqs.length : Int) ≤ p.asks
  rise : p.seqs.Pairwise (· < ·)
  fit : ∀ s ∈ p.seqs, In64 s
  lives : ∀ s o, p.live s = some o → s ∈ p.seqs ∧ o.seq = s
  small : ∀ s o, p.live s = some o → o.len ≤ 1000000000
theorem sane0 : Sane ps0 := ⟨by simp [ps0], by simp [ps0], by simp [ps0], by simp [ps0], by simp [ps0], by simp [ps0], by simp [ps0]⟩
/-- What a block of a book is. -/
inductive Col where
  | book | live | accs | qty
  | seqs (who : ByteArray)
/-- A row of numbers of who's own. -/
def Own (O : Nat → Prop) (C : Nat → Col) (w : World) (who : ByteArray) (sv : Value) (L : List Int) : Prop :=
  w.ownsRow 0 3 1 sv L.length (intV L) ∧ ∀ g, sv.ownBlock = some g → O g ∧ C g = .seqs who
/-- The Qtys of an order. -/
def Fits (O : Nat → Prop) (C : Nat → Col) (w : World) (qv : Value) : Od → Prop
  | .step .. => True
  | .block _ _ _ _ Q _ _ => Ints w qv Q ∧ (Q = [] ∨ ∀ b off n c, qv = .slice (some ⟨b, off, none⟩) n c → O b ∧ C b = .qty)
structure BkIn (O : Nat → Prop) (C : Nat → Col) (w : World) (bb lb ab : Nat) (el ea : Array MapEntry) (kl ka : Nat) (N : List ByteArray) (S : ByteArray → Ps) : Prop where
  ob : O bb
  ol : O lb
  oa : O ab
  lt : ∀ i, O i → i < w.heap.size
  cb : C bb = .book
  cl : C lb = .live
  cac : C ab = .accs
  box : w.heap[bb]? = some (.cells #[.map (some lb), .map (some ab)] 73 (0, 0))
  live : MapAt 78 w lb el kl
  accs : MapAt 9 w ab ea ka
  acc : ∀ x ∈ ea.toList, ∃ who sv, who ∈ N ∧ x.key = .string who ∧ x.val = .agg #[.int .i64 (S who).locked, .int .i64 (S who).asks, sv] ∧ Own O C w who sv (S who).seqs
  names : ∀ who ∈ N, who.size ≤ 1099511627776 ∧ ∃ x ∈ ea.toList, x.key = .string who
  nodup : N.Nodup
  rest : ∀ who, who ∉ N → S who = ps0
  sane : ∀ who, Sane (S who)
  lv : ∀ x ∈ el.toList, ∃ who s o qv, x.key = keyV who s ∧ x.val = .agg (odC who qv o) ∧ (S who).live s = some o ∧ Fits O C w qv o
  lives : ∀ who s o, (S who).live s = some o → ∃ x ∈ el.toList, x.key = keyV who s
/-- v is a book that has had these participants. -/
def Bk (O : Nat → Prop) (w : World) (v : Value) (N : List ByteArray) (S : ByteArray → Ps) : Prop :=
  ∃ C bb lb ab el ea cl ca, v = .pointer (some ⟨bb, 0, none⟩) ∧ BkIn O C w bb lb ab el ea cl ca N S
theorem wf64 {x : Int} (h : In64 x) : (Lit.int .i64 x).wf = true := by
  exact WalkArith.wf_i64 (by unfold In64 at h; omega)
theorem own_kx {O : Nat → Prop} {C : Nat → Col} {T : Nat → Prop} {w w' : World} {who : ByteArray} {sv : Value} {L : List Int} (h : Own O C w who sv L) (k : Kx T w w') (hT : ∀ i, O i → C i = .seqs who → ¬ T i) : Own O C w' who sv L := by
  obtain ⟨⟨h1, h2⟩, h3⟩ := h
  refine ⟨⟨h1, ?_⟩, h3⟩
  rcases h2 with h2 | ⟨g, cap, cur, rfl, hb, hh, r⟩
  · exact Or.inl h2
  · have hg := h3 g rfl
    exact Or.inr ⟨g, cap, cur, rfl, hb, k.blk hh (hT g hg.1 hg.2), r⟩
theorem fits_kx {O : Nat → Prop} {C : Nat → Col} {T : Nat → Prop} {w w' : World} {qv : Value} {o : Od} (h : Fits O C w qv o) (k : Kx T w w') (hT : ∀ i, O i → C i = .qty → ¬ T i) : Fits O C w' qv o := by
  cases o with
  | step => trivial
  | block s z b p Q pa g =>
    obtain ⟨h1, h2⟩ := h
    refine ⟨?_, h2⟩
    rcases h2 with rfl | h2
    · obtain ⟨a, c, e1, e2, e3, _⟩ := h1
      exact ⟨a, c, e1, e2, e3, Or.inl rfl⟩
    · exact Row1.kx h1 k (fun b off n c e => hT b (h2 b off n c e).1 (h2 b off n c e).2)
theorem BkIn.kx {O : Nat → Prop} {C : Nat → Col} {T : Nat → Prop} {w w' : World} {bb lb ab : Nat} {el ea : Array MapEntry} {cl ca : Nat} {N : List ByteArray} {S : ByteArray → Ps} (h : BkIn O C w bb lb ab el ea cl ca N S) (k : Kx T w w') (hT : ∀ i, O i → ¬ T i) : BkIn O C w' bb lb ab el ea cl ca N S :=
  { h with
    lt := fun i hi => Nat.lt_of_lt_of_le (h.lt i hi) k.size
    box := k.blk h.box (hT bb h.ob)
    live := h.live.to (k.block lb (h.lt lb h.ol) (hT lb h.ol))
    accs := h.accs.to (k.block ab (h.lt ab h.oa) (hT ab h.oa))
    acc := fun x hx => by
      obtain ⟨who, sv, h1, h2, h3, h4⟩ := h.acc x hx
      exact ⟨who, sv, h1, h2, h3, own_kx h4 k (fun i hi _ => hT i hi)⟩
    lv := fun x hx => by
      obtain ⟨who, s, o, qv, h1, h2, h3, h4⟩ := h.lv x hx
      exact ⟨who, s, o, qv, h1, h2, h3, fits_kx h4 k (fun i hi _ => hT i hi)⟩ }
theorem Bk.kx {O T : Nat → Prop} {w w' : World} {v : Value} {N : List ByteArray} {S : ByteArray → Ps} (h : Bk O w v N S) (k : Kx T w w') (hT : ∀ i, O i → ¬ T i) : Bk O w' v N S := by
  obtain ⟨C, bb, lb, ab, el, ea, cl, ca, hv, hb⟩ := h
  exact ⟨C, bb, lb, ab, el, ea, cl, ca, hv, hb.kx k hT⟩
theorem Bk.below {O : Nat → Prop} {w w' : World} {v : Value} {N : List ByteArray} {S : ByteArray → Ps} (h : Bk O w v N S) (k : Below w.heap.size w w') : Bk O w' v N S := h.kx (T := fun _ => False) (Kx.of_below k) (fun _ _ h => h)
theorem BkIn.below {O : Nat → Prop} {C : Nat → Col} {w w' : World} {bb lb ab : Nat} {el ea : Array MapEntry} {cl ca : Nat} {N : List ByteArray} {S : ByteArray → Ps} (h : BkIn O C w bb lb ab el ea cl ca N S) (k : Below w.heap.size w w') : BkIn O C w' bb lb ab el ea cl ca N S := h.kx (T := fun _ => False) (Kx.of_below k) (fun _ _ h => h)
theorem Bk.sane {O : Nat → Prop} {w : World} {v : Value} {N : List ByteArray} {S : ByteArray → Ps} (h : Bk O w v N S) (who : ByteArray) : Sane (S who) := by
  obtain ⟨C, bb, lb, ab, el, ea, cl, ca, hv, hb⟩ := h
  exact hb.sane who
section
variable {O : Nat → Prop} {C : Nat → Col} {w : World} {bb lb ab : Nat} {el ea : Array MapEntry} {cl ca : Nat} {N : List ByteArray} {S : ByteArray → Ps}
theorem BkIn.cell0 (h : BkIn O C w bb lb ab el ea cl ca N S) : w.cell? ⟨bb, 0, none⟩ = some (.map (some lb)) := blk_cell h.box 0 _ rfl
theorem BkIn.cell1 (h : BkIn O C w bb lb ab el ea cl ca N S) : w.cell? ⟨bb, 1, none⟩ = some (.map (some ab)) := blk_cell h.box 1 _ rfl
/-- The account of who. -/
theorem BkIn.account (h : BkIn O C w bb lb ab el ea cl ca N S) (who : ByteArray) (hw : who.size ≤ 1099511627776) :
    ∃ sv, Own O C w who sv (S who).seqs ∧ ∀ W : World, W.heap[ab]? = w.heap[ab]? → (Instr.lookup 71 (.map (some ab)) (.string who) false).run Try.prog W = .ok (.agg #[.int .i64 (S who).locked, .int .i64 (S who).asks, sv]) W := by
  rcases h.accs.look lawStr Try.underlying71 zero_account (key := .string who) (keyOf_name who (by unfold maxLen; omega)) with ⟨hno, hl⟩ | ⟨x, hx, he, hl⟩
  · have hN : who ∉ N := fun hm => by
      obtain ⟨x, hx, hk⟩ := (h.names who hm).2
      exact hno x hx hk
    rw [h.rest who hN]
    exact ⟨.slice none 0 0, ⟨World.ownsRow_nil w 0 _ 1, fun g hg => by cases hg⟩, fun W hW => by simpa [ps0] using hl W hW false⟩
  · obtain ⟨who', sv, h1, h2, h3, h4⟩ := h.acc x hx
    have : who' = who := by rw [h2] at he; cases he; rfl
    subst this
    exact ⟨sv, h4, fun W hW => by simpa [h3] using hl W hW false⟩
/-- The order of who at s. -/
theorem BkIn.order (h : BkIn O C w bb lb ab el ea cl ca N S) (who : ByteArray) (s : Int) (hw : who.size ≤ 1099511627776) (hs : In64 s) :
    ((S who).live s = none ∧ ∀ W : World, W.heap[lb]? = w.heap[lb]? → (Instr.lookup 70 (.map (some lb)) (.agg #[.string who, .int .i64 s]) true).run Try.prog W = .ok (.tuple #[zeroAsk, .bool false]) W) ∨
    ∃ o qv, (S who).live s = some o ∧ Fits O C w qv o ∧ ∀ W : World, W.heap[lb]? = w.heap[lb]? → (Instr.lookup 70 (.map (some lb)) (.agg #[.string who, .int .i64 s]) true).run Try.prog W = .ok (.tuple #[.agg (odC who qv o), .bool true]) W := by
  rcases h.live.look lawKey Try.underlying70 zero_Ask (key := keyV who s) (keyOf_key who s (by unfold maxLen; omega) (wf64 hs)) with ⟨hno, hl⟩ | ⟨x, hx, he, hl⟩
  · refine Or.inl ⟨?_, fun W hW => by simpa [keyV] using hl W hW true⟩
    cases hq : (S who).live s with
    | none => rfl
    | some o =>
      obtain ⟨x, hx, hk⟩ := h.lives who s o hq
      exact absurd hk (hno x hx)
  · obtain ⟨who', s', o, qv, h1, h2, h3, h4⟩ := h.lv x hx
    obtain ⟨rfl, rfl⟩ := keyV_inj (h1.symm.trans he)
    exact Or.inr ⟨o, qv, h3, h4, fun W hW => by simpa [h2, keyV] using hl W hW true⟩
end

def upd (S : ByteArray → Ps) (who : ByteArray) (p : Ps) : ByteArray → Ps := fun x => if x = who then p else S x
theorem upd_same (S : ByteArray → Ps) (who : ByteArray) (p : Ps) : upd S who p who = p := if_pos rfl
theorem upd_other (S : ByteArray → Ps) {who x : ByteArray} (p : Ps) (h : x ≠ who) : upd S who p x = S x := if_neg h
def addN (N : List ByteArray) (who : ByteArray) : List ByteArray := if N.any (fun y => decide (y = who)) = true then N else N ++ [who]
theorem any_mem {N : List ByteArray} {who : ByteArray} : N.any (fun y => decide (y = who)) = true ↔ who ∈ N := by
  rw [List.any_eq_true]
  constructor
  · rintro ⟨x, hx, h⟩
    have : x = who := of_decide_eq_true h
    rw [← this]; exact hx
  · intro h
    exact ⟨who, h, by simp⟩
theorem mem_addN {N : List ByteArray} {who x : ByteArray} : x ∈ addN N who ↔ x ∈ N ∨ x = who := by
  unfold addN
  split
  · rename_i h
    constructor
    · exact Or.inl
    · rintro (h1 | rfl)
      · exact h1
      · exact any_mem.1 h
  · simp
theorem nodup_addN {N : List ByteArray} (h : N.Nodup) (who : ByteArray) : (addN N who).Nodup := by
  unfold addN
  split
  · exact h
  · rename_i hn
    exact List.nodup_append.2 ⟨h, by simp, fun a ha b hb e => hn (any_mem.2 (by simp at hb; rw [← hb, ← e]; exact ha))⟩
/-- What an Add of who may write. -/
def May1 (O : Nat → Prop) (C : Nat → Col) (who : ByteArray) (i : Nat) : Prop := O i ∧ (C i = .live ∨ C i = .accs ∨ C i = .seqs who)
/-- The book behind an Add of who. -/
theorem BkIn.after {O O' : Nat → Prop} {C C' : Nat → Col} {w w' : World} {bb lb ab : Nat} {el ea el' ea' : Array MapEntry} {cl ca cl' ca' : Nat} {N : List ByteArray} {S : ByteArray → Ps}
    (h : BkIn O C w bb lb ab el ea cl ca N S) (who : ByteArray) (hw : who.size ≤ 1099511627776) (p : Ps) (hp : Sane p) (sv : Value)
    (hO : ∀ i, O i → O' i) (hlt : ∀ i, O' i → i < w'.heap.size) (hC : ∀ i, O i → C' i = C i) (k : Kx (May1 O C who) w w')
    (hm : MapAt 78 w' lb el' cl') (ha : MapAt 9 w' ab ea' ca')
    (put : Put ea ea' (.string who) (.agg #[.int .i64 p.locked, .int .i64 p.asks, sv])) (own : Own O' C' w' who sv p.seqs)
    (l1 : ∀ x ∈ el'.toList, (x ∈ el.toList ∧ ∀ s, x.key = keyV who s → p.live s = (S who).live s) ∨ ∃ s o qv, x.key = keyV who s ∧ x.val = .agg (odC who qv o) ∧ p.live s = some o ∧ Fits O' C' w' qv o)
    (l2 : ∀ s o, p.live s = some o → ∃ x ∈ el'.toList, x.key = keyV who s) (l3 : ∀ x ∈ el.toList, (∀ s, x.key ≠ keyV who s) → x ∈ el'.toList) :
    BkIn O' C' w' bb lb ab el' ea' cl' ca' (addN N who) (upd S who p) := by
  have ownK : ∀ {y : ByteArray} {sv : Value} {L : List Int}, y ≠ who → Own O C w y sv L → Own O' C' w' y sv L := by
    intro y sv L hy hown
    obtain ⟨h1, h3⟩ := own_kx hown k (fun i hi hc hm => by
      rcases hm.2 with e | e | e
      · rw [hc] at e; cases e
      · rw [hc] at e; cases e
      · rw [hc] at e; cases e; exact hy rfl)
    exact ⟨h1, fun g hg => ⟨hO g (h3 g hg).1, by rw [hC g (h3 g hg).1]; exact (h3 g hg).2⟩⟩
  have fitK : ∀ {qv : Value} {o : Od}, Fits O C w qv o → Fits O' C' w' qv o := by
    intro qv o hf
    have h1 := fits_kx hf k (fun i hi hc hm => by
      rcases hm.2 with e | e | e <;> (rw [hc] at e; cases e))
    cases o with
    | step => trivial
    | block s z b p Q pa g =>
      obtain ⟨h1, h2⟩ := h1
      refine ⟨h1, ?_⟩
      rcases h2 with h2 | h2
      · exact Or.inl h2
      · exact Or.inr fun b off n c e => ⟨hO b (h2 b off n c e).1, by rw [hC b (h2 b off n c e).1]; exact (h2 b off n c e).2⟩
  refine { ob := hO _ h.ob, ol := hO _ h.ol, oa := hO _ h.oa, lt := hlt, cb := by rw [hC _ h.ob]; exact h.cb, cl := by rw [hC _ h.ol]; exact h.cl, cac := by rw [hC _ h.oa]; exact h.cac
           box := k.blk h.box (fun hm => by rcases hm.2 with e | e | e <;> (rw [h.cb] at e; cases e))
           live := hm, accs := ha, acc := ?_, names := ?_, nodup := nodup_addN h.nodup who, rest := ?_, sane := ?_, lv := ?_, lives := ?_ }
  · intro x hx
    rcases put.only x hx with ⟨hx', hne⟩ | ⟨e1, e2⟩
    · obtain ⟨y, sv', h1, h2, h3, h4⟩ := h.acc x hx'
      have hy : y ≠ who := fun e => hne (by rw [h2, e])
      exact ⟨y, sv', mem_addN.2 (Or.inl h1), h2, by rw [upd_other S p hy]; exact h3, by rw [upd_other S p hy]; exact ownK hy h4⟩
    · exact ⟨who, sv, mem_addN.2 (Or.inr rfl), e1, by rw [upd_same]; exact e2, by rw [upd_same]; exact own⟩
  · intro y hy
    by_cases e : y = who
    · subst e
      obtain ⟨x, hx, e1, _⟩ := put.new
      exact ⟨hw, x, hx, e1⟩
    · rcases mem_addN.1 hy with hy | hy
      · obtain ⟨h1, x, hx, e1⟩ := h.names y hy
        exact ⟨h1, x, put.kept x hx (fun e2 => e (by rw [e1] at e2; cases e2; rfl)), e1⟩
      · exact absurd hy e
  · intro y hy
    have h1 : y ∉ N := fun hm => hy (mem_addN.2 (Or.inl hm))
    have h2 : y ≠ who := fun e => hy (mem_addN.2 (Or.inr e))
    rw [upd_other S p h2]; exact h.rest y h1
  · intro y
    by_cases e : y = who
    · subst e; rw [upd_same]; exact hp
    · rw [upd_other S p e]; exact h.sane y
  · intro x hx
    rcases l1 x hx with ⟨hx', hs⟩ | ⟨s, o, qv, e1, e2, e3, e4⟩
    · obtain ⟨y, s, o, qv, e1, e2, e3, e4⟩ := h.lv x hx'
      refine ⟨y, s, o, qv, e1, e2, ?_, fitK e4⟩
      by_cases e : y = who
      · subst e; rw [upd_same, hs s e1]; exact e3
      · rw [upd_other S p e]; exact e3
    · exact ⟨who, s, o, qv, e1, e2, by rw [upd_same]; exact e3, e4⟩
  · intro y s o hy
    by_cases e : y = who
    · subst e
      rw [upd_same] at hy
      exact l2 s o hy
    · rw [upd_other S p e] at hy
      obtain ⟨x, hx, e1⟩ := h.lives y s o hy
      exact ⟨x, l3 x hx (fun t e2 => e (keyV_inj (e1.symm.trans e2)).1), e1⟩
end Go.Proofs.Ytbkobimbdiogfaa
