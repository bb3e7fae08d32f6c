/- A map in memory, as the row of its entries. -/
import Derived.Test.YtbkobimbdiogfaaKWide
import Derived.Maps.OwnSet
import Derived.DeepKeys4
namespace Go.Proofs.Ytbkobimbdiogfaa
open Go.RowKit Go.MapKept
open Go.Maps (Keyed string_keyed)
open Go.ChangeMaps (setBlock heap_setBlock_same heap_setBlock_other modify_eq_set)
set_option linter.unusedVariables false
set_option maxRecDepth 100000
set_option linter.unusedSimpArgs false

theorem bk_laidOut : laidOutB Try.prog = true := by kernel_rfl
theorem bk_rowKey : (78 : TypeId) < Try.prog.types.size := of_decide_eq_true (by kernel_rfl)
theorem bk_wide : (match Try.prog.underlying 78 with | some (.array _ _) | some (.struct _) => true | _ => false) = true := by rw [Try.underlying78]
/-- The keys of live. -/
theorem lawKey : Keyed Try.prog 78 := Keyed.of_law (deep_law_laid bk_laidOut (m := 2) (by omega) bk_rowKey (by kernel_rfl) bk_wide)
/-- The keys of accounts. -/
theorem lawStr : Keyed Try.prog 9 := string_keyed Try.underlying9
theorem key_cells : Try.prog.cellsOf 78 = 2 := by kernel_rfl
theorem key_cellsS : Try.prog.cellsOf 9 = 1 := by kernel_rfl
theorem key_cellsI : Try.prog.cellsOf 3 = 1 := by kernel_rfl
theorem key_type : Try.prog.keyType 78 = true := by kernel_rfl
def keyV (who : ByteArray) (s : Int) : Value := .agg #[.string who, .int .i64 s]
theorem keyLits_key (d : Nat) (who : ByteArray) (s : Int) (hw : who.size ≤ maxLen) (hs : (Lit.int .i64 s).wf = true) : Try.prog.keyLits (d + 2) 78 [.string who, .int .i64 s] = some [.string who.data.toList, .int .i64 s] := by
  simp [Program.keyLits, Try.underlying78, key_cells, key_cellsS, key_cellsI, Try.underlying9, Try.underlying3, hw, hs]
theorem keyOf_key (who : ByteArray) (s : Int) (hw : who.size ≤ maxLen) (hs : (Lit.int .i64 s).wf = true) : ∃ l, keyOf Try.prog 78 (keyV who s) = some l := by
  have h := keyLits_key (Try.prog.types.size - 1) who s hw hs
  have hz : Try.prog.types.size - 1 + 2 = Try.prog.types.size + 1 := by
    have h0 : Try.prog.types.size ≠ 0 := fun e => by
      have := bk_rowKey
      rw [e] at this
      exact Nat.not_lt_zero _ this
    omega
  rw [hz] at h
  have hf : (keyV who s).formed Try.prog 78 = true := by simp [keyV, Value.formed, Try.underlying78, key_cells]
  unfold keyOf
  simp only [Try.underlying78, key_type, hf, Bool.and_self, if_true]
  have hc : (keyV who s).cells.toList = [.string who, .int .i64 s] := rfl
  rw [hc, h]
  exact ⟨_, rfl⟩
theorem keyV_inj {a b : ByteArray} {s t : Int} (h : keyV a s = keyV b t) : a = b ∧ s = t := by
  simp [keyV] at h; exact h
theorem keyOf_name (who : ByteArray) (hw : who.size ≤ maxLen) : ∃ l, keyOf Try.prog 9 (.string who) = some l := ⟨_, WideMaps.keyOf_string_mk Try.underlying9 hw⟩

/-- Block b is a map of the entries es. -/
structure MapAt (k : TypeId) (w : World) (b : Nat) (es : Array MapEntry) (clock : Nat) : Prop where
  blk : w.heap[b]? = some (.map es clock)
  stamped : Stamped es clock
  keys : ∀ x ∈ es.toList, ∃ l, keyOf Try.prog k x.key = some l
theorem MapAt.to {k : TypeId} {w w' : World} {b : Nat} {es : Array MapEntry} {clock : Nat} (h : MapAt k w b es clock) (hb : w'.heap[b]? = w.heap[b]?) : MapAt k w' b es clock := ⟨hb.trans h.blk, h.stamped, h.keys⟩
theorem MapAt.apart {k : TypeId} {w : World} {b : Nat} {es : Array MapEntry} {clock : Nat} (h : MapAt k w b es clock) {x y : MapEntry} (hx : x ∈ es.toList) (hy : y ∈ es.toList) (he : x.key = y.key) : x = y := by
  obtain ⟨i, hi, ex⟩ := List.getElem_of_mem hx
  obtain ⟨j, hj, ey⟩ := List.getElem_of_mem hy
  have hp := ((stamped_iff _ _).1 h.stamped).2.2
  rcases Nat.lt_trichotomy i j with hlt | rfl | hlt
  · exact absurd (by rw [ex, ey]; exact he) (List.pairwise_iff_getElem.1 hp i j hi hj hlt)
  · rw [← ex, ← ey]
  · exact absurd (by rw [ex, ey]; exact he.symm) (List.pairwise_iff_getElem.1 hp j i hj hi hlt)
section
variable {k e t : TypeId} {w : World} {b : Nat} {es : Array MapEntry} {clock : Nat}
theorem MapAt.look (h : MapAt k w b es clock) (K : Keyed Try.prog k) (ht : Try.prog.underlying t = some (.map k e)) {z : Value} (hz : ∀ w, (zeroValue e).run Try.prog w = .ok z w) {key : Value} (hkey : ∃ l, keyOf Try.prog k key = some l) :
    ((∀ x ∈ es.toList, x.key ≠ key) ∧ ∀ W : World, W.heap[b]? = w.heap[b]? → ∀ c : Bool, (Instr.lookup t (.map (some b)) key c).run Try.prog W = .ok (if c then .tuple #[z, .bool false] else z) W) ∨
    ∃ x ∈ es.toList, x.key = key ∧ ∀ W : World, W.heap[b]? = w.heap[b]? → ∀ c : Bool, (Instr.lookup t (.map (some b)) key c).run Try.prog W = .ok (if c then .tuple #[x.val, .bool true] else x.val) W := by
  obtain ⟨kl, hkey⟩ := hkey
  have key1 : (∃ x ∈ es.toList, x.key = key) ∨ (∀ x ∈ es.toList, x.key ≠ key) := by
    by_cases hx : ∃ x ∈ es.toList, x.key = key
    · exact Or.inl hx
    · exact Or.inr fun x hx' he => hx ⟨x, hx', he⟩
  rcases key1 with ⟨x, hx, he⟩ | hno
  · refine Or.inr ⟨x, hx, he, fun W hW c => ?_⟩
    have hb := hW.trans h.blk
    rcases K.find W hkey es.toList h.keys with ⟨h1, h2⟩ | ⟨j, e0, h1, h2, h3⟩
    · exact absurd he (h2 x hx)
    · have : e0 = x := h.apart (List.mem_of_getElem? h2) hx (h3.trans he.symm)
      subst this
      simp [Instr.lookup, run_underlying ht, MapKept.run_getObj_map hb, K.check W _ hkey, h1, Result.andThen]
  · refine Or.inl ⟨hno, fun W hW c => ?_⟩
    have hb := hW.trans h.blk
    rcases K.find W hkey es.toList h.keys with ⟨h1, h2⟩ | ⟨j, e0, h1, h2, h3⟩
    · simp [Instr.lookup, run_underlying ht, MapKept.run_getObj_map hb, K.check W _ hkey, h1, hz W, Result.andThen]
    · exact absurd h3 (hno e0 (List.mem_of_getElem? h2))
/-- What m[key] = val makes of the entries. -/
structure Put (es es' : Array MapEntry) (key val : Value) : Prop where
  only : ∀ x ∈ es'.toList, (x ∈ es.toList ∧ x.key ≠ key) ∨ (x.key = key ∧ x.val = val)
  kept : ∀ x ∈ es.toList, x.key ≠ key → x ∈ es'.toList
  new : ∃ x ∈ es'.toList, x.key = key ∧ x.val = val
  size : es'.size ≤ es.size + 1
theorem MapAt.put (h : MapAt k w b es clock) (K : Keyed Try.prog k) (ht : Try.prog.underlying t = some (.map k e)) {key : Value} (hkey : ∃ l, keyOf Try.prog k key = some l) (val : Value) :
    ∃ es' clock', (Instr.mapUpdate t (.map (some b)) key val).run Try.prog w = .ok () (setBlock w b (.map es' clock')) ∧ MapAt k (setBlock w b (.map es' clock')) b es' clock' ∧ Put es es' key val := by
  obtain ⟨kl, hkey⟩ := hkey
  have hb := h.blk
  rcases K.find w hkey es.toList h.keys with ⟨h1, h2⟩ | ⟨j, e0, h1, h2, h3⟩
  · refine ⟨es.push ⟨key, val, clock⟩, clock + 1, ?_, ⟨heap_setBlock_same hb _, stamped_push h.stamped h2, ?_⟩, ?_, ?_, ?_, ?_⟩
    · simp [Instr.mapUpdate, run_underlying ht, MapKept.run_getObj_map hb, K.check w false hkey, h1, MapKept.run_setObj_map _ hb, Result.andThen, setBlock]
    · intro x hx
      simp only [Array.toList_push, List.mem_append, List.mem_singleton] at hx
      rcases hx with hx | rfl
      · exact h.keys x hx
      · exact ⟨_, hkey⟩
    · intro x hx
      simp only [Array.toList_push, List.mem_append, List.mem_singleton] at hx
      rcases hx with hx | rfl
      · exact Or.inl ⟨hx, h2 x hx⟩
      · exact Or.inr ⟨rfl, rfl⟩
    · intro x hx _
      simp only [Array.toList_push, List.mem_append, List.mem_singleton]
      exact Or.inl hx
    · exact ⟨⟨key, val, clock⟩, by simp, rfl, rfl⟩
    · simp
  · have hj : es[j]? = some e0 := by simpa using h2
    have hjl : j < es.toList.length := (List.getElem?_eq_some_iff.1 h2).1
    have hkeyf : ∀ e', es[j]? = some e' → ({ e' with key := key, val := val } : MapEntry).key = e'.key := fun e' he' => by rw [hj] at he'; cases he'; exact h3.symm
    have hlist : (es.modify j (fun e' => { e' with key := key, val := val })).toList = es.toList.set j { e0 with key := key, val := val } := by rw [Array.toList_modify, modify_eq_set _ _ _ _ h2]
    have e0l : es.toList[j] = e0 := by rw [List.getElem?_eq_getElem hjl] at h2; exact Option.some.inj h2
    have who : ∀ x ∈ es.toList.set j { e0 with key := key, val := val }, x = { e0 with key := key, val := val } ∨ (x ∈ es.toList ∧ x.key ≠ key) := by
      intro x hx
      obtain ⟨i, hi, ex⟩ := List.getElem_of_mem hx
      rw [List.getElem_set] at ex
      split at ex
      · exact Or.inl ex.symm
      · rename_i hne
        have hi' : i < es.toList.length := by simpa using hi
        refine Or.inr ⟨ex ▸ List.getElem_mem hi', fun he => ?_⟩
        have hp := List.pairwise_iff_getElem.1 ((stamped_iff _ _).1 h.stamped).2.2
        rcases Nat.lt_or_gt_of_ne hne with hlt | hlt
        · exact hp j i hjl hi' hlt (by rw [ex, e0l, he, h3])
        · exact hp i j hi' hjl hlt (by rw [ex, e0l, he, h3])
    refine ⟨es.modify j (fun e' => { e' with key := key, val := val }), clock, ?_, ⟨heap_setBlock_same hb _, stamped_modify h.stamped _ _ (fun _ _ => rfl) (fun e' _ he' => hkeyf e' he'), ?_⟩, ?_, ?_, ?_, ?_⟩
    · simp [Instr.mapUpdate, run_underlying ht, MapKept.run_getObj_map hb, K.check w false hkey, h1, hj, h3, K.stays w hkey, MapKept.run_setObj_map _ hb, Result.andThen, setBlock]
    · intro x hx
      rw [hlist] at hx
      rcases who x hx with rfl | ⟨hx', _⟩
      · exact ⟨_, hkey⟩
      · exact h.keys x hx'
    · intro x hx
      rw [hlist] at hx
      rcases who x hx with rfl | hx'
      · exact Or.inr ⟨rfl, rfl⟩
      · exact Or.inl hx'
    · intro x hx hne
      rw [hlist]
      obtain ⟨i, hi, ex⟩ := List.getElem_of_mem hx
      have hij : j ≠ i := fun e1 => hne (by subst e1; rw [← ex, e0l, h3])
      refine List.mem_iff_getElem.2 ⟨i, by simpa using hi, ?_⟩
      rw [List.getElem_set_ne hij]; exact ex
    · rw [hlist]
      exact ⟨{ e0 with key := key, val := val }, List.mem_iff_getElem.2 ⟨j, by simpa using hjl, by simp⟩, rfl, rfl⟩
    · simp
theorem MapAt.drop (h : MapAt k w b es clock) (K : Keyed Try.prog k) (ht : Try.prog.underlying t = some (.map k e)) {key : Value} (hkey : ∃ l, keyOf Try.prog k key = some l) :
    ∃ es', (∀ ty, (Builtin.delete_ #[t, k] ty #[.map (some b), key]).run Try.prog w = .ok (.tuple #[]) (setBlock w b (.map es' clock))) ∧ MapAt k (setBlock w b (.map es' clock)) b es' clock ∧ (∀ x, x ∈ es'.toList ↔ x ∈ es.toList ∧ x.key ≠ key) := by
  obtain ⟨kl, hkey⟩ := hkey
  have hb := h.blk
  rcases K.find w hkey es.toList h.keys with ⟨h1, h2⟩ | ⟨j, e0, h1, h2, h3⟩
  · refine ⟨es, fun ty => ?_, ⟨heap_setBlock_same hb _, h.stamped, h.keys⟩, fun x => ⟨fun hx => ⟨hx, h2 x hx⟩, fun hx => hx.1⟩⟩
    simp [Builtin.delete_, run_underlying ht, MapKept.run_getObj_map hb, K.check w _ hkey, h1, MapKept.run_setObj_map _ hb, Result.andThen, setBlock]
  · have hjl : j < es.toList.length := (List.getElem?_eq_some_iff.1 h2).1
    have hjs : j < es.size := by simpa using hjl
    have e0l : es.toList[j] = e0 := by rw [List.getElem?_eq_getElem hjl] at h2; exact Option.some.inj h2
    have hsub : (es.eraseIdxIfInBounds j).toList = es.toList.eraseIdx j := by
      unfold Array.eraseIdxIfInBounds
      rw [dif_pos hjs]
      simp
    have hmem : ∀ x, x ∈ es.toList.eraseIdx j ↔ x ∈ es.toList ∧ x.key ≠ key := by
      intro x
      rw [List.mem_eraseIdx_iff_getElem?]
      constructor
      · rintro ⟨i, hne, hi⟩
        refine ⟨List.mem_of_getElem? hi, fun he => ?_⟩
        obtain ⟨hil, ex⟩ := List.getElem?_eq_some_iff.1 hi
        have hp := List.pairwise_iff_getElem.1 ((stamped_iff _ _).1 h.stamped).2.2
        rcases Nat.lt_or_gt_of_ne hne with hlt | hlt
        · exact hp i j hil hjl hlt (by rw [ex, e0l, he, h3])
        · exact hp j i hjl hil hlt (by rw [ex, e0l, he, h3])
      · rintro ⟨hx, hne⟩
        obtain ⟨i, hi, ex⟩ := List.getElem_of_mem hx
        exact ⟨i, fun e1 => hne (by subst e1; rw [← ex, e0l, h3]), by rw [List.getElem?_eq_getElem hi, ex]⟩
    refine ⟨es.eraseIdxIfInBounds j, fun ty => ?_, ⟨heap_setBlock_same hb _, stamped_erase h.stamped j, ?_⟩, ?_⟩
    · simp [Builtin.delete_, run_underlying ht, MapKept.run_getObj_map hb, K.check w _ hkey, h1, MapKept.run_setObj_map _ hb, Result.andThen, setBlock]
    · intro x hx
      rw [hsub] at hx
      exact h.keys x ((hmem x).1 hx).1
    · intro x; rw [hsub]; exact hmem x
theorem kx_setBlock {S : Nat → Prop} {w w' : World} (h : Kx S w w') {b : Nat} {es es' : Array MapEntry} {c c' : Nat} (hb : w'.heap[b]? = some (.map es c)) (hs : S b) : Kx S w (setBlock w' b (.map es' c')) :=
  ⟨h.os, h.tape, h.output, by simpa [setBlock] using h.size, fun i hi hn => by
    rw [heap_setBlock_other hb _ (fun e1 => hn (by rw [e1]; exact hs))]; exact h.block i hi hn⟩
end
/-- m[key] = val at the operation. -/
theorem wpList_put {P : Program} (w w' : World) {ops : Array Oper} {rest : List Oper} {o : Oper} {a : Act} {Q : Exit → Act → World → Prop}
    (hg : o.guard = none) (m x v : Operand) (t : TypeId) (hop : o.op = Op.mapUpdate t m x v) (M key val : Value) (hm : a.eval m = M) (hx : a.eval x = key) (hv : a.eval v = val)
    (hrun : (Instr.mapUpdate t M key val).run P w = .ok () w') (hK : wpList P ops Q rest (a.put o.dst undef) w') : wpList P ops Q (o :: rest) a w := by
  refine wpList_plain hg fun K' hK' => ?_
  unfold Oper.wp
  simp [execOp, hop, hm, hx, hv, hrun, Result.andThen]
  exact hK' _ _ hK
end Go.Proofs.Ytbkobimbdiogfaa
