/- The document's wal: become, Append, Checkpoint. -/
import Derived.Test.YthcefjkpiaecjaaVLay2
import Derived.Test.YthcefjkpiaecjaaWHealth
namespace Go.Proofs.Ythcefjkpiaecjaa
open Go.RowKit
set_option linter.unusedVariables false
set_option maxRecDepth 100000
set_option linter.unusedSimpArgs false

/-- The log that the document's fields tell of. -/
def VL (t : ByteArray) (n a : Nat) (er : Int) : Lg := ⟨⟨n, a, t.size, sumOf t⟩, tailT t, er⟩
/-- Behind a call of the document's log. -/
def VNext (B r m : Nat) (vw vi vc : Value) (D' : Dsk) (t : ByteArray) (n a : Nat) (er : Int) (w w' : World) : Prop :=
  VAt w' r m t n a er ∧ ∃ vc' cl' fk' keep', RAt w' m D' vw vi vc' cl' fk' keep' ∧ (∀ g, vc'.ownBlock = some g → vc.ownBlock = some g ∨ w.heap.size ≤ g) ∧ Kf (fun k => Sr m vw vi vc k ∨ k = r) B w w'
theorem VNext.of {B r m : Nat} {vw vi vc : Value} {D D' : Dsk} {t : ByteArray} {n a : Nat} {er : Int} {w w' : World} {cl fk : Int} {keep : Nat} (hv : VAt w r m t n a er) (d : RAt w m D vw vi vc cl fk keep) (h : RNext B m vw vi vc D' w w') : VNext B r m vw vi vc D' t n a er w w' := by
  have h' := VAt.rnext hv d h
  obtain ⟨v1, c1, f1, k1, r1, o1, q1⟩ := h
  exact ⟨h', v1, c1, f1, k1, r1, o1, q1.bel, fun i hi hn => q1.oth i hi fun e => hn (Or.inl e)⟩
theorem RAt.far {w : World} {b k r : Nat} {D : Dsk} {vw vi vc : Value} {cl fk : Int} {keep : Nat} {v : Value} (d : RAt w b D vw vi vc cl fk keep) (hr : ¬ Sr b vw vi vc r) : RAt (w.setCell ⟨r, k, none⟩ v) b D vw vi vc cl fk keep :=
  have hs : ∀ {base : Nat} {e : TypeId} {u : Value} {n : Nat} {xs : List Value}, w.ownsRow base e 1 u n xs → u.ownBlock ≠ some r → (w.setCell ⟨r, k, none⟩ v).ownsRow base e 1 u n xs := fun h hn => ownsRow_same h fun g hg => Below.heap_setCell w ⟨r, k, none⟩ v g (fun e => hn (by rw [hg]; exact congrArg some e))
  ⟨(Below.heap_setCell w ⟨r, k, none⟩ v b (fun e => hr (Or.inl e.symm))).trans d.blk, hs d.was fun e => hr (Or.inr (Or.inl e)), hs d.is fun e => hr (Or.inr (Or.inr (Or.inl e))), hs d.ca fun e => hr (Or.inr (Or.inr (Or.inr e))), d.ne, d.good, d.cl, d.fk, d.kp⟩
/-- A field of the log is written. -/
theorem VNext.set {B r m : Nat} {vw vi vc : Value} {D' : Dsk} {t t2 : ByteArray} {n a n2 a2 : Nat} {er er2 : Int} {w w' : World} (h : VNext B r m vw vi vc D' t n a er w w') (hB : B ≤ r) (k : Nat) (v : Value) (he : ([Value.pointer (some ⟨m, 0, none⟩), .string t, .int .u64 (n : Int), .int .i64 (a : Int), .int .i64 er] : List Value).set k v = [.pointer (some ⟨m, 0, none⟩), .string t2, .int .u64 (n2 : Int), .int .i64 (a2 : Int), .int .i64 er2]) : VNext B r m vw vi vc D' t2 n2 a2 er2 w (w'.setCell ⟨r, k, none⟩ v) := by
  obtain ⟨h1, v1, c1, f1, k1, r1, o1, q1⟩ := h
  have hs := set_at (L := [_, _, _, _, _]) (k := k) (v := v) h1.blk
  rw [he] at hs
  exact ⟨⟨hs⟩, v1, c1, f1, k1, r1.far (vat_off h1 r1), o1, q1.set (Or.inr rfl) hB v⟩
theorem VNext.refl {B r m : Nat} {vw vi vc : Value} {D : Dsk} {t : ByteArray} {n a : Nat} {er : Int} {w : World} {cl fk : Int} {keep : Nat} (hv : VAt w r m t n a er) (d : RAt w m D vw vi vc cl fk keep) : VNext B r m vw vi vc D t n a er w w := VNext.of hv d (RNext.refl d)
set_option maxHeartbeats 4000000 in
/-- become, where it lays. -/
theorem vbecome_lay (w : World) (B r m : Nat) (D : Dsk) (vw vi vc : Value) (cl fk : Int) (keep : Nat) (t0 : ByteArray) (n a0 : Nat) (t : ByteArray) (a f : Nat) (hB : B ≤ m) (hBr : B ≤ r) (ha : a ≤ 1) (hf : f ≤ 1048576) (ht : t.size ≤ 32512) (hn : n < 18446744073709551616) (ho : D.ops + 1000 < 4611686018427387904) (hd : RAt w m D vw vi vc cl fk keep) (hinv : Inv D) (hv : VAt w r m t0 n a0 0) :
    Calls Try.prog 30 #[.pointer (some ⟨r, 0, none⟩), .string t, .int .i64 (a : Int), .int .i64 (f : Int)] w fun e w' => e = .returned (.int .i64 (D.lay (vps a t f) ((comV n a t).num % 2) (comT (comV n a t))).2) ∧ ((D.lay (vps a t f) ((comV n a t).num % 2) (comT (comV n a t))).2 = 0 → VNext B r m vw vi vc (D.lay (vps a t f) ((comV n a t).num % 2) (comT (comV n a t))).1 t ((n + 1) % 18446744073709551616) a 0 w w') ∧ ((D.lay (vps a t f) ((comV n a t).num % 2) (comT (comV n a t))).2 ≠ 0 → VNext B r m vw vi vc (D.lay (vps a t f) ((comV n a t).num % 2) (comT (comV n a t))).1 t0 n a0 (D.lay (vps a t f) ((comV n a t).num % 2) (comT (comV n a t))).2 w w') := by
  have hly := vlay_any w B r m D vw vi vc cl fk keep t0 n a0 0 t a f hB ha hf ht hn ho hd hinv hv
  generalize D.lay (vps a t f) ((comV n a t).num % 2) (comT (comV n a t)) = R at *
  obtain ⟨D2, e2⟩ := R
  simp only at hly ⊢
  have hx : ¬ (32512 : Int) < (t.size : Int) := by omega
  have HV := hid hv
  have HD := hid hd
  obtain ⟨c0, c1, c2, c3, c4, cf⟩ := hv.cells
  clear hd hv hinv
  have hN1b : IntKind.u64.wrap ((n : Int) + 1) = (((n + 1) % 18446744073709551616 : Nat) : Int) := by simp only [IntKind.wrap, IntKind.signed, IntKind.bits]; simp
  generalize (n + 1) % 18446744073709551616 = N1 at *
  go_enter Try.func30, Try.ntmps30
  go_wp2_with fail
  refine hly.mono ?_
  rintro e w1 ⟨rfl, hN⟩
  have h1 := VNext.of HV.out HD.out hN
  have h2 := h1.set hBr 4 (.int .i64 e2) rfl
  clear hly hN c0 c1 c2 c3 c4 cf
  obtain ⟨x0, x1, x2, x3, x4, xf⟩ := h1.1.cells
  by_cases h0 : e2 = 0
  · subst h0
    have h3 := h2.set hBr 1 (.string t) rfl
    have h4 := h3.set hBr 3 (.int .i64 (a : Int)) rfl
    have h5 := h4.set hBr 2 (.int .u64 (N1 : Int)) rfl
    have H5 := hid h5
    clear h1 h2 h3 h4 h5
    go_wp2
    go_ret
    first
      | exact ⟨rfl, H5.out⟩
      | exact ⟨rfl, fun _ => H5.out, fun k => absurd rfl k⟩
  · have H2 := hid h2
    clear h1 h2
    go_wp2
    go_ret
    first
      | exact ⟨rfl, H2.out⟩
      | exact ⟨rfl, fun k => absurd k h0, fun _ => H2.out⟩
set_option maxHeartbeats 4000000 in
/-- become, where it does not. -/
theorem vbecome_no (w : World) (r m : Nat) (t0 : ByteArray) (n a0 : Nat) (er : Int) (t : ByteArray) (a f : Nat) (hts : t.size ≤ maxLen) (h : er ≠ 0 ∨ 32512 < t.size) (hv : VAt w r m t0 n a0 er) :
    Calls Try.prog 30 #[.pointer (some ⟨r, 0, none⟩), .string t, .int .i64 (a : Int), .int .i64 (f : Int)] w fun e w' => e = .returned (.int .i64 (if er ≠ 0 then er else 50)) ∧ w' = w := by
  obtain ⟨c0, c1, c2, c3, c4, cf⟩ := hv.cells
  unfold maxLen at hts
  by_cases h0 : er = 0
  · subst h0
    have hx : (32512 : Int) < (t.size : Int) := by rcases h with h | h; (· exact absurd rfl h); omega
    rw [if_neg (by simp)]
    go_enter Try.func30, Try.ntmps30
    go_wp2
    go_ret
    exact ⟨rfl, rfl⟩
  · rw [if_pos h0]
    go_enter Try.func30, Try.ntmps30
    go_wp2
    go_ret
    exact ⟨rfl, rfl⟩
end Go.Proofs.Ythcefjkpiaecjaa
