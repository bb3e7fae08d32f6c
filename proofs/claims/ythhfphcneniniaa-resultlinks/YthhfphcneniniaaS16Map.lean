/- result: a map in memory, as the row of its entries; a map from names to counts. -/
import Derived.Test.YthhfphcneniniaaIBase
import Derived.Maps.OwnSet
import Derived.DeepKeys4
import Derived.WideKeyEntry
namespace Go.Proofs.Ythhfphcneniniaa
open Go.RowKit Go.MapKept
open Go.Maps (Keyed string_keyed)
open Go.ChangeMaps (setBlock heap_setBlock_same heap_setBlock_other modify_eq_set)
set_option linter.unusedVariables false
set_option maxRecDepth 100000
set_option linter.unusedSimpArgs false

theorem bk_laidOut : laidOutB Try.prog = true := by kernel_rfl
theorem bk_rowKey : (31 : TypeId) < Try.prog.types.size := of_decide_eq_true (by kernel_rfl)
theorem bk_wide : (match Try.prog.underlying 31 with | some (.array _ _) | some (.struct _) => true | _ => false) = true := by rw [Try.underlying31]
/-- The keys of live. -/
theorem lawKey : Keyed Try.prog 31 := Keyed.of_law (deep_law_laid bk_laidOut (m := 2) (by omega) bk_rowKey (by kernel_rfl) bk_wide)
theorem key_cells : Try.prog.cellsOf 31 = 2 := by kernel_rfl
theorem key_cellsS : Try.prog.cellsOf 9 = 1 := by kernel_rfl
theorem key_cellsI : Try.prog.cellsOf 3 = 1 := by kernel_rfl
theorem key_type : Try.prog.keyType 31 = true := by kernel_rfl
def keyV (who : ByteArray) (s : Int) : Value := .agg #[.string who, .int .i64 s]
theorem keyLits_key (d : Nat) (who : ByteArray) (s : Int) (hw : who.size ≤ maxLen) (hs : (Lit.int .i64 s).wf = true) : Try.prog.keyLits (d + 2) 31 [.string who, .int .i64 s] = some [.string who.data.toList, .int .i64 s] := by
  simp [Program.keyLits, Try.underlying31, key_cells, key_cellsS, key_cellsI, Try.underlying9, Try.underlying3, hw, hs]
theorem keyOf_key (who : ByteArray) (s : Int) (hw : who.size ≤ maxLen) (hs : (Lit.int .i64 s).wf = true) : ∃ l, keyOf Try.prog 31 (keyV who s) = some l := by
  have h := keyLits_key (Try.prog.types.size - 1) who s hw hs
  have hz : Try.prog.types.size - 1 + 2 = Try.prog.types.size + 1 := by
    have h0 : Try.prog.types.size ≠ 0 := fun e => by
      have := bk_rowKey
      rw [e] at this
      exact Nat.not_lt_zero _ this
    omega
  rw [hz] at h
  have hf : (keyV who s).formed Try.prog 31 = true := by simp [keyV, Value.formed, Try.underlying31, key_cells]
  unfold keyOf
  simp only [Try.underlying31, key_type, hf, Bool.and_self, if_true]
  have hc : (keyV who s).cells.toList = [.string who, .int .i64 s] := rfl
  rw [hc, h]
  exact ⟨_, rfl⟩
theorem keyV_inj {a b : ByteArray} {s t : Int} (h : keyV a s = keyV b t) : a = b ∧ s = t := by
  simp [keyV] at h; exact h
/-- Block b is a map of the entries es. -/
structure MapAt (k : TypeId) (w : World) (b : Nat) (es : Array MapEntry) (clock : Nat) : Prop where
  blk : w.heap[b]? = some (.map es clock)
  stamped : Stamped es clock
  keys : ∀ x ∈ es.toList, ∃ l, keyOf Try.prog k x.key = some l
theorem MapAt.to {k : TypeId} {w w' : World} {b : Nat} {es : Array MapEntry} {clock : Nat} (h : MapAt k w b es clock) (hb : w'.heap[b]? = w.heap[b]?) : MapAt k w' b es clock := ⟨hb.trans h.blk, h.stamped, h.keys⟩
theorem MapAt.apart {k : TypeId} {w : World} {b : Nat} {es : Array MapEntry} {clock : Nat} (h : MapAt k w b es clock) {x y : MapEntry} (hx : x ∈ es.toList) (hy : y ∈ es.toList) (he : x.key = y.key) : x = y := by
  obtain ⟨i, hi, ex⟩ := List.getElem_of_mem hx
  obtain ⟨j, hj, ey⟩ := List.getElem_of_mem hy
  have hp := ((stamped_iff _ _).1 h.stamped).2.2
  rcases Nat.lt_trichotomy i j with hlt | rfl | hlt
  · exact absurd (by rw [ex, ey]; exact he) (List.pairwise_iff_getElem.1 hp i j hi hj hlt)
  · rw [← ex, ← ey]
  · exact absurd (by rw [ex, ey]; exact he.symm) (List.pairwise_iff_getElem.1 hp j i hj hi hlt)
section
variable {k e t : TypeId} {w : World} {b : Nat} {es : Array MapEntry} {clock : Nat}
theorem MapAt.look (h : MapAt k w b es clock) (K : Keyed Try.prog k) (ht : Try.prog.underlying t = some (.map k e)) {z : Value} (hz : ∀ w, (zeroValue e).run Try.prog w = .ok z w) {key : Value} (hkey : ∃ l, keyOf Try.prog k key = some l) :
    ((∀ x ∈ es.toList, x.key ≠ key) ∧ ∀ W : World, W.heap[b]? = w.heap[b]? → ∀ c : Bool, (Instr.lookup t (.map (some b)) key c).run Try.prog W = .ok (if c then .tuple #[z, .bool false] else z) W) ∨
    ∃ x ∈ es.toList, x.key = key ∧ ∀ W : World, W.heap[b]? = w.heap[b]? → ∀ c : Bool, (Instr.lookup t (.map (some b)) key c).run Try.prog W = .ok (if c then .tuple #[x.val, .bool true] else x.val) W := by
  obtain ⟨kl, hkey⟩ := hkey
  have key1 : (∃ x ∈ es.toList, x.key = key) ∨ (∀ x ∈ es.toList, x.key ≠ key) := by
    by_cases hx : ∃ x ∈ es.toList, x.key = key
    · exact Or.inl hx
    · exact Or.inr fun x hx' he => hx ⟨x, hx', he⟩
  rcases key1 with ⟨x, hx, he⟩ | hno
  · refine Or.inr ⟨x, hx, he, fun W hW c => ?_⟩
    have hb := hW.trans h.blk
    rcases K.find W hkey es.toList h.keys with ⟨h1, h2⟩ | ⟨j, e0, h1, h2, h3⟩
    · exact absurd he (h2 x hx)
    · have : e0 = x := h.apart (List.mem_of_getElem? h2) hx (h3.trans he.symm)
      subst this
      simp [Instr.lookup, run_underlying ht, MapKept.run_getObj_map hb, K.check W _ hkey, h1, Result.andThen]
  · refine Or.inl ⟨hno, fun W hW c => ?_⟩
    have hb := hW.trans h.blk
    rcases K.find W hkey es.toList h.keys with ⟨h1, h2⟩ | ⟨j, e0, h1, h2, h3⟩
    · simp [Instr.lookup, run_underlying ht, MapKept.run_getObj_map hb, K.check W _ hkey, h1, hz W, Result.andThen]
    · exact absurd h3 (hno e0 (List.mem_of_getElem? h2))
end
/-- A map from names to numbers: f tells what each name has. -/
def Cnt (w : World) (b : Nat) (f : ByteArray → Int → Int) : Prop :=
  ∃ es clock, MapAt 31 w b es clock ∧ (∀ x ∈ es.toList, ∃ a s, x.key = keyV a s ∧ x.val = .int .i64 (f a s)) ∧ ∀ a s, (∀ x ∈ es.toList, x.key ≠ keyV a s) → f a s = 0
theorem Cnt.to {w w' : World} {b : Nat} {f : ByteArray → Int → Int} (h : Cnt w b f) (hb : w'.heap[b]? = w.heap[b]?) : Cnt w' b f := by
  obtain ⟨es, cl, h1, h2, h3⟩ := h
  exact ⟨es, cl, h1.to hb, h2, h3⟩
theorem Cnt.lt {w : World} {b : Nat} {f : ByteArray → Int → Int} (h : Cnt w b f) : b < w.heap.size := by
  obtain ⟨es, cl, h1, h2, h3⟩ := h
  exact lt_of_block h1.blk
theorem Cnt.below {w w' : World} {b : Nat} {f : ByteArray → Int → Int} (h : Cnt w b f) (k : Below w.heap.size w w') : Cnt w' b f := h.to (k.block b h.lt)
theorem Cnt.made (w : World) : Cnt (w.alloc (.map #[] 0)) w.heap.size (fun _ _ => 0) :=
  ⟨#[], 0, ⟨inew w _, stamped_empty 0, by simp⟩, by simp, fun _ _ _ => rfl⟩
theorem zero_count (w : World) : (zeroValue 3).run Try.prog w = .ok (.int .i64 0) w := by kernel_rfl
theorem Cnt.look {w : World} {b : Nat} {f : ByteArray → Int → Int} (h : Cnt w b f) (a : ByteArray) (s : Int) (ha : a.size ≤ maxLen) (hs : (Lit.int .i64 s).wf = true) :
    (Instr.lookup 29 (.map (some b)) (.agg #[.string a, .int .i64 s]) false).run Try.prog w = .ok (.int .i64 (f a s)) w := by
  obtain ⟨es, cl, h1, h2, h3⟩ := h
  rcases h1.look lawKey Try.underlying29 (z := .int .i64 0) zero_count (key := keyV a s) (keyOf_key a s ha hs) with ⟨hn, hr⟩ | ⟨x, hx, he, hr⟩
  · rw [h3 a s hn]
    exact hr w rfl false
  · obtain ⟨a', s', e1, e2⟩ := h2 x hx
    obtain ⟨rfl, rfl⟩ := keyV_inj (e1.symm.trans he)
    rw [← e2]
    exact hr w rfl false
def upd2 (f : ByteArray → Int → Int) (a : ByteArray) (s : Int) (n : Int) : ByteArray → Int → Int := fun a' s' => if a' = a ∧ s' = s then n else f a' s'
/-- m[key]++, in its parts: the entry is made ready, then it is stored into. -/
theorem Cnt.entry {w : World} {b : Nat} {f : ByteArray → Int → Int} (h : Cnt w b f) (a : ByteArray) (s : Int) (ha : a.size ≤ maxLen) (hs : (Lit.int .i64 s).wf = true) :
    ∃ (st : Nat) (es1 : Array MapEntry) (c1 : Nat), (Instr.mapEntry 29 (.map (some b)) (.agg #[.string a, .int .i64 s])).run Try.prog w = .ok (.tuple #[.int .i64 (f a s), goInt st]) (setBlock w b (.map es1 c1)) ∧ Cnt (setBlock w b (.map es1 c1)) b f ∧
      ∀ (w2 : World) (n : Int), w2.heap[b]? = some (.map es1 c1) → ∃ es' c', (Instr.entryStore 29 (.map (some b)) (goInt st) (.int .i64 n)).run Try.prog w2 = .ok () (setBlock w2 b (.map es' c')) ∧ Cnt (setBlock w2 b (.map es' c')) b (upd2 f a s n) := by
  obtain ⟨es, clock, h0, hv, hz⟩ := h
  have K := lawKey
  have ht := Try.underlying29
  obtain ⟨kl, hkey⟩ := keyOf_key a s ha hs
  have hb := h0.blk
  obtain ⟨s1, s2, s3⟩ := (stamped_iff _ _).1 h0.stamped
  have ek : (Value.agg #[.string a, .int .i64 s]) = keyV a s := rfl
  rw [ek]
  rcases K.find w hkey es.toList h0.keys with ⟨h1, h2⟩ | ⟨j, e0, h1, h2, h3⟩
  · have hf0 := hz a s h2
    have hst : ∀ v, Stamped (es.push ⟨keyV a s, v, clock⟩) (clock + 1) := fun v => stamped_push h0.stamped h2
    have hkk : ∀ v, ∀ x ∈ (es.push ⟨keyV a s, v, clock⟩).toList, ∃ l, keyOf Try.prog 31 x.key = some l := fun v x hx => by
      simp only [Array.toList_push, List.mem_append, List.mem_singleton] at hx
      rcases hx with hx | rfl
      · exact h0.keys x hx
      · exact ⟨_, hkey⟩
    refine ⟨clock, es.push ⟨keyV a s, .int .i64 0, clock⟩, clock + 1, ?_, ⟨_, _, ⟨heap_setBlock_same hb _, hst _, hkk _⟩, ?_, ?_⟩, fun w2 n hw2 => ⟨es.push ⟨keyV a s, .int .i64 n, clock⟩, clock + 1, ?_, ⟨_, _, ⟨heap_setBlock_same hw2 _, hst _, hkk _⟩, ?_, ?_⟩⟩⟩
    · rw [hf0]
      simp [Instr.mapEntry, run_underlying ht, MapKept.run_getObj_map hb, K.check w false hkey, h1, zero_count, MapKept.run_setObj_map _ hb, Result.andThen, setBlock]
    · intro x hx
      simp only [Array.toList_push, List.mem_append, List.mem_singleton] at hx
      rcases hx with hx | rfl
      · exact hv x hx
      · exact ⟨a, s, rfl, by rw [hf0]⟩
    · intro a' s' hn
      exact hz a' s' (fun x hx => hn x (by simp only [Array.toList_push, List.mem_append]; exact Or.inl hx))
    · have hidx : (es.push ⟨keyV a s, .int .i64 0, clock⟩).findIdx? (fun e => ((e.born : Nat) : Int) == ((clock : Nat) : Int)) = some es.size := by
        rw [WideElems.findIdx_arr]
        have := WideElems.findIdx_born (l := (es.push ⟨keyV a s, .int .i64 0, clock⟩).toList) (j := es.size) (e0 := ⟨keyV a s, .int .i64 0, clock⟩) (by
          simp only [Array.toList_push, List.map_append, List.map_cons, List.map_nil]
          refine List.nodup_append.2 ⟨s2, by simp, fun a ha c hc e1 => ?_⟩
          simp only [List.mem_singleton] at hc
          obtain ⟨x, hx, rfl⟩ := List.mem_map.1 ha
          have := s1 x hx
          omega) (by simp)
        exact this
      have hmod : (es.push ⟨keyV a s, .int .i64 0, clock⟩).modify es.size (fun e => { e with val := .int .i64 n }) = es.push ⟨keyV a s, .int .i64 n, clock⟩ := by
        apply Array.ext'
        rw [Array.toList_modify, Array.toList_push, Array.toList_push, ← Array.length_toList, WideElems.modify_last]
      simp [Instr.entryStore, MapKept.run_getObj_map hw2, asInt, asIntOf, goInt, hidx, hmod, MapKept.run_setObj_map _ hw2, Result.andThen, setBlock]
    · intro x hx
      simp only [Array.toList_push, List.mem_append, List.mem_singleton] at hx
      rcases hx with hx | rfl
      · obtain ⟨a', s', e1, e2⟩ := hv x hx
        refine ⟨a', s', e1, ?_⟩
        rw [e2]
        simp only [upd2]
        rw [if_neg]
        rintro ⟨rfl, rfl⟩
        exact h2 x hx e1
      · exact ⟨a, s, rfl, by simp [upd2]⟩
    · intro a' s' hn
      have hne : ¬ (a' = a ∧ s' = s) := by
        rintro ⟨rfl, rfl⟩
        exact hn ⟨keyV a' s', .int .i64 n, clock⟩ (by simp) rfl
      simp only [upd2]
      rw [if_neg hne]
      exact hz a' s' (fun x hx => hn x (by simp only [Array.toList_push, List.mem_append]; exact Or.inl hx))
  · have hj : es[j]? = some e0 := by simpa using h2
    obtain ⟨a0, s0, q1, q2⟩ := hv e0 (List.mem_of_getElem? h2)
    obtain ⟨rfl, rfl⟩ := keyV_inj (q1.symm.trans h3)
    have hsame : es.modify j (fun e => { e with key := keyV a0 s0 }) = es := by
      apply Array.ext'
      rw [Array.toList_modify, modify_eq_set _ _ _ _ h2]
      have : ({ e0 with key := keyV a0 s0 } : MapEntry) = e0 := by rw [← h3]
      rw [this]
      exact WideElems.set_self _ _ _ h2
    have hjl : j < es.toList.length := (List.getElem?_eq_some_iff.1 h2).1
    have e0l : es.toList[j] = e0 := by rw [List.getElem?_eq_getElem hjl] at h2; exact Option.some.inj h2
    refine ⟨e0.born, es, clock, ?_, ⟨_, _, ⟨heap_setBlock_same hb _, h0.stamped, h0.keys⟩, hv, hz⟩, fun w2 n hw2 => ?_⟩
    · simp [Instr.mapEntry, run_underlying ht, MapKept.run_getObj_map hb, K.check w false hkey, h1, hj, h3, q2, K.stays w hkey, hsame, MapKept.run_setObj_map _ hb, Result.andThen, setBlock]
    · have hidx : es.findIdx? (fun e => ((e.born : Nat) : Int) == ((e0.born : Nat) : Int)) = some j := by
        rw [WideElems.findIdx_arr]
        exact WideElems.findIdx_born s2 h2
      have hlist : (es.modify j (fun e' => { e' with val := .int .i64 n })).toList = es.toList.set j { e0 with val := .int .i64 n } := by rw [Array.toList_modify, modify_eq_set _ _ _ _ h2]
      have hkeyf : ∀ e', es[j]? = some e' → ({ e' with val := .int .i64 n } : MapEntry).key = e'.key := fun _ _ => rfl
      have who : ∀ x ∈ es.toList.set j { e0 with val := .int .i64 n }, x = { e0 with val := .int .i64 n } ∨ (x ∈ es.toList ∧ x.key ≠ keyV a0 s0) := by
        intro x hx
        obtain ⟨i, hi, ex⟩ := List.getElem_of_mem hx
        rw [List.getElem_set] at ex
        split at ex
        · exact Or.inl ex.symm
        · rename_i hne
          have hi' : i < es.toList.length := by simpa using hi
          refine Or.inr ⟨ex ▸ List.getElem_mem hi', fun he => ?_⟩
          have hp := List.pairwise_iff_getElem.1 s3
          rcases Nat.lt_or_gt_of_ne hne with hlt | hlt
          · exact hp j i hjl hi' hlt (by rw [ex, e0l, he, h3])
          · exact hp i j hi' hjl hlt (by rw [ex, e0l, he, h3])
      refine ⟨es.modify j (fun e' => { e' with val := .int .i64 n }), clock, ?_, ⟨_, _, ⟨heap_setBlock_same hw2 _, stamped_modify h0.stamped _ _ (fun _ _ => rfl) (fun e' _ he' => hkeyf e' he'), ?_⟩, ?_, ?_⟩⟩
      · simp [Instr.entryStore, MapKept.run_getObj_map hw2, asInt, asIntOf, goInt, hidx, MapKept.run_setObj_map _ hw2, Result.andThen, setBlock]
      · intro x hx
        rw [hlist] at hx
        rcases who x hx with rfl | ⟨hx', _⟩
        · exact ⟨kl, by rw [← hkey, ← h3]⟩
        · exact h0.keys x hx'
      · intro x hx
        rw [hlist] at hx
        rcases who x hx with rfl | ⟨hx', hne⟩
        · exact ⟨a0, s0, h3, by simp [upd2]⟩
        · obtain ⟨a', s', e1, e2⟩ := hv x hx'
          refine ⟨a', s', e1, ?_⟩
          rw [e2]
          simp only [upd2]
          rw [if_neg]
          rintro ⟨rfl, rfl⟩
          exact hne e1
      · intro a' s' hn
        rw [hlist] at hn
        have hne : ¬ (a' = a0 ∧ s' = s0) := by
          rintro ⟨rfl, rfl⟩
          exact hn { e0 with val := .int .i64 n } (List.mem_iff_getElem.2 ⟨j, by simpa using hjl, by simp⟩) h3
        simp only [upd2]
        rw [if_neg hne]
        refine hz a' s' (fun x hx he => ?_)
        obtain ⟨i, hi, ex⟩ := List.getElem_of_mem hx
        have hij : j ≠ i := fun e1 => hne (by
          subst e1
          rw [e0l] at ex
          subst ex
          obtain ⟨p1, p2⟩ := keyV_inj (h3.symm.trans he)
          exact ⟨p1.symm, p2.symm⟩)
        exact hn x (List.mem_iff_getElem.2 ⟨i, by simpa using hi, by rw [List.getElem_set_ne hij]; exact ex⟩) he
theorem Cnt.blk {w : World} {b : Nat} {f : ByteArray → Int → Int} (h : Cnt w b f) : ∃ es c, w.heap[b]? = some (.map es c) := by
  obtain ⟨es, cl, h1, h2, h3⟩ := h
  exact ⟨es, cl, h1.blk⟩
theorem Cnt.set_heap {w : World} {b : Nat} {f : ByteArray → Int → Int} (ho : Cnt w b f) (es : Array MapEntry) (c : Nat) (i : Nat) (hi : i ≠ b) : (setBlock w b (.map es c)).heap[i]? = w.heap[i]? := by
  obtain ⟨es', c', h⟩ := ho.blk
  exact heap_setBlock_other h _ hi
theorem Cnt.set_below {w w' : World} {B b : Nat} {f : ByteArray → Int → Int} (h : Below B w w') (hb : B ≤ b) (ho : Cnt w' b f) (es : Array MapEntry) (c : Nat) : Below B w (setBlock w' b (.map es c)) :=
  ⟨h.os, h.tape, h.output, by simpa [setBlock] using h.size, fun i hi => by
    have : i ≠ b := by omega
    rw [ho.set_heap es c i this]
    exact h.block i hi⟩
theorem Cnt.other {w : World} {b c : Nat} {f g : ByteArray → Int → Int} (h : Cnt w b f) (hne : b ≠ c) (ho : Cnt w c g) (es : Array MapEntry) (cl : Nat) : Cnt (setBlock w c (.map es cl)) b f :=
  h.to (ho.set_heap es cl b hne)
theorem Cnt.cell {w : World} {b : Nat} {f : ByteArray → Int → Int} (ho : Cnt w b f) (es : Array MapEntry) (c : Nat) {p : Addr} {v : Value} (hp : w.cell? p = some v) (hne : p.block ≠ b) : (setBlock w b (.map es c)).cell? p = some v := by
  rw [← hp]
  exact World.cell?_of_block (ho.set_heap es c _ hne)
/-- All is as it was but the map's own block. -/
structure MFr (b : Nat) (w w' : World) : Prop where
  os : w'.os = w.os
  tape : w'.tape = w.tape
  output : w'.output = w.output
  size : w'.heap.size = w.heap.size
  block : ∀ i, i ≠ b → w'.heap[i]? = w.heap[i]?
theorem MFr.below {b B : Nat} {w0 w w' : World} (h : MFr b w w') (k : Below B w0 w) (hb : B ≤ b) : Below B w0 w' :=
  ⟨h.os.trans k.os, h.tape.trans k.tape, h.output.trans k.output, by rw [h.size]; exact k.size, fun i hi => (h.block i (by omega)).trans (k.block i hi)⟩
theorem MFr.cell {b : Nat} {w w' : World} (h : MFr b w w') {p : Addr} {v : Value} (hp : w.cell? p = some v) (hne : p.block ≠ b) : w'.cell? p = some v := by
  rw [← hp]
  exact World.cell?_of_block (h.block _ hne)
theorem MFr.cnt {b c : Nat} {w w' : World} (h : MFr b w w') {f : ByteArray → Int → Int} (hp : Cnt w c f) (hne : c ≠ b) : Cnt w' c f := hp.to (h.block _ hne)
/-- m[key]++, part by part, in both orders. -/
theorem Cnt.bump {w : World} {b : Nat} {f : ByteArray → Int → Int} (h : Cnt w b f) (a : ByteArray) (s : Int) (ha : a.size ≤ maxLen) (hs : (Lit.int .i64 s).wf = true) (n : Int) :
    ∃ (st : Int) (w1 w2 : World), (Instr.mapEntry 29 (.map (some b)) (.agg #[.string a, .int .i64 s])).run Try.prog w = .ok (.tuple #[.int .i64 (f a s), .int .i64 st]) w1 ∧
      (Instr.lookup 29 (.map (some b)) (.agg #[.string a, .int .i64 s]) false).run Try.prog w = .ok (.int .i64 (f a s)) w ∧
      (Instr.lookup 29 (.map (some b)) (.agg #[.string a, .int .i64 s]) false).run Try.prog w1 = .ok (.int .i64 (f a s)) w1 ∧
      (Instr.entryStore 29 (.map (some b)) (.int .i64 st) (.int .i64 n)).run Try.prog w1 = .ok () w2 ∧ MFr b w w1 ∧ MFr b w w2 ∧ Cnt w2 b (upd2 f a s n) := by
  obtain ⟨st, es1, c1, h1, h2, h3⟩ := h.entry a s ha hs
  obtain ⟨e0, c0, hb⟩ := h.blk
  obtain ⟨es', c', h4, h5⟩ := h3 (setBlock w b (.map es1 c1)) n (heap_setBlock_same hb _)
  refine ⟨(st : Int), _, _, h1, h.look a s ha hs, h2.look a s ha hs, h4, ⟨rfl, rfl, rfl, by simp [setBlock], fun i hi => heap_setBlock_other hb _ hi⟩, ⟨rfl, rfl, rfl, by simp [setBlock], fun i hi => ?_⟩, h5⟩
  rw [h2.set_heap es' c' i hi]
  exact heap_setBlock_other hb _ hi
end Go.Proofs.Ythhfphcneniniaa
