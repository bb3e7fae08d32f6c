/- A disk in plain lists: what each call makes of it. -/
namespace Go.Proofs.Ythcefjkpiaecjaa

structure Dsk where
  wr : List ByteArray
  la : List ByteArray
  ca : List Nat
  ops : Nat
  dead : Bool
  fl : Bool
  cg : Bool
  cl : Nat
  fg : Bool
  fk : Nat
  keep : Nat
/-- Bit k modulo 64 of keep. -/
def kbit (keep k : Nat) : Bool := keep >>> (k % 64) % 2 == 1
/-- What lasts when the power goes: the cached sectors from the k-th on. -/
def loseL (keep : Nat) (wr : List ByteArray) : List Nat → Nat → List ByteArray → List ByteArray
  | [], _, la => la
  | i :: is, k, la => loseL keep wr is (k + 1) (if kbit keep k then la.set i (wr.getD i ByteArray.empty) else la)
def Dsk.forget (D : Dsk) : Dsk := { D with cg := false, cl := 0, fg := false, fk := 0, keep := 0 }
def Dsk.lose (D : Dsk) (keep : Nat) : Dsk :=
  Dsk.forget { D with la := loseL keep D.wr D.ca 0 D.la, wr := loseL keep D.wr D.ca 0 D.la, ca := [], dead := true }
def Dsk.begin (D : Dsk) : Dsk × Int :=
  if D.dead then (D, 43) else if D.fl then (D, 42) else if D.cg && D.cl == 0 then (D.lose D.keep, 43) else if D.fg && D.fk == 0 then ({ D with fl := true }, 42)
  else ({ D with ops := D.ops + 1, cl := D.cl - 1, fk := D.fk - 1 }, 0)
def Dsk.put (D : Dsk) (i : Nat) (s : ByteArray) : Dsk := { D with wr := D.wr.set i s, ca := if i ∈ D.ca then D.ca else D.ca ++ [i] }
def Dsk.synced (D : Dsk) : Dsk := { D with la := D.wr, ca := [] }
def Dsk.write (D : Dsk) (i : Int) (s : ByteArray) : Dsk × Int :=
  if i < 0 ∨ 256 ≤ i then (D, 40) else if 256 < s.size then (D, 41) else if D.begin.2 = 0 then (D.begin.1.put i.toNat s, 0) else D.begin
def Dsk.sync (D : Dsk) : Dsk × Int := if D.begin.2 = 0 then (D.begin.1.synced, 0) else D.begin
def Dsk.crash (D : Dsk) (keep : Nat) : Dsk := if D.dead then D else D.lose keep
def Dsk.power (D : Dsk) : Dsk := Dsk.forget { D with dead := false, fl := false }
def Dsk.cut (D : Dsk) (n : Int) (keep : Nat) : Dsk := { D with cg := true, cl := n.toNat, keep := keep }
def Dsk.fail (D : Dsk) (n : Int) : Dsk := { D with fg := true, fk := n.toNat }
def Dsk.new : Dsk := ⟨List.replicate 256 ByteArray.empty, List.replicate 256 ByteArray.empty, [], 0, false, false, false, 0, false, 0, 0⟩
/-- What a disk's numbers keep to. -/
structure Dsk.Good (D : Dsk) : Prop where
  wl : D.wr.length = 256
  ll : D.la.length = 256
  nd : D.ca.Nodup
  lt : ∀ x ∈ D.ca, x < 256
  cl : D.cl < 9223372036854775808
  fk : D.fk < 9223372036854775808
  kp : D.keep < 18446744073709551616
  c0 : D.cg = false → D.cl = 0
  f0 : D.fg = false → D.fk = 0
theorem loseL_len (keep : Nat) (wr : List ByteArray) : ∀ (ca : List Nat) (k : Nat) (la : List ByteArray), (loseL keep wr ca k la).length = la.length
  | [], _, _ => rfl
  | i :: is, k, la => by
    simp only [loseL]
    rw [loseL_len keep wr is]
    split <;> simp
theorem loseL_snoc (keep : Nat) (wr : List ByteArray) (i : Nat) : ∀ (ca : List Nat) (k : Nat) (la : List ByteArray), loseL keep wr (ca ++ [i]) k la = if kbit keep (k + ca.length) then (loseL keep wr ca k la).set i (wr.getD i ByteArray.empty) else loseL keep wr ca k la
  | [], k, la => by simp [loseL]
  | j :: is, k, la => by
    simp only [List.cons_append, loseL, loseL_snoc keep wr i is, List.length_cons]
    rw [show k + 1 + is.length = k + (is.length + 1) by omega]
theorem nodup_small {l : List Nat} {n : Nat} (h : l.Nodup) (hl : ∀ x ∈ l, x < n) : l.length ≤ n := by
  induction n generalizing l with
  | zero =>
    cases l with
    | nil => simp
    | cons a t => exact absurd (hl a (by simp)) (by omega)
  | succ n ih =>
    have h2 := ih (l := l.erase n) (h.erase n) (fun x hx => by
      have h1 := (List.Nodup.mem_erase_iff h).1 hx
      have := hl x h1.2
      omega)
    rw [List.length_erase] at h2
    split at h2 <;> omega
theorem Dsk.Good.small {D : Dsk} (h : D.Good) : D.ca.length ≤ 256 := nodup_small h.nd h.lt
theorem Dsk.Good.lose {D : Dsk} (h : D.Good) (keep : Nat) : (D.lose keep).Good where
  wl := by simp [Dsk.lose, Dsk.forget, loseL_len, h.ll]
  ll := by simp [Dsk.lose, Dsk.forget, loseL_len, h.ll]
  nd := by simp [Dsk.lose, Dsk.forget]
  lt := by simp [Dsk.lose, Dsk.forget]
  cl := by simp [Dsk.lose, Dsk.forget]
  fk := by simp [Dsk.lose, Dsk.forget]
  kp := by simp [Dsk.lose, Dsk.forget]
  c0 := by simp [Dsk.lose, Dsk.forget]
  f0 := by simp [Dsk.lose, Dsk.forget]
theorem Dsk.Good.begin {D : Dsk} (h : D.Good) : D.begin.1.Good := by
  unfold Dsk.begin
  split
  · exact h
  · split
    · exact h
    · split
      · exact h.lose _
      · split
        · exact { h with }
        · exact { h with cl := by have := h.cl; simp; omega, fk := by have := h.fk; simp; omega, c0 := fun e => by simp [h.c0 e], f0 := fun e => by simp [h.f0 e] }
theorem Dsk.Good.put {D : Dsk} (h : D.Good) (i : Nat) (hi : i < 256) (s : ByteArray) : (D.put i s).Good :=
  { h with
    wl := by simp [Dsk.put, h.wl]
    nd := by
      simp only [Dsk.put]
      split
      · exact h.nd
      · rename_i hn
        rw [List.nodup_append]
        exact ⟨h.nd, by simp, fun a ha b hb => by simp at hb; subst hb; intro e; subst e; exact hn ha⟩
    lt := by
      intro x hx
      simp only [Dsk.put] at hx
      split at hx
      · exact h.lt x hx
      · rcases List.mem_append.1 hx with hx | hx
        · exact h.lt x hx
        · simp at hx; omega }
theorem Dsk.Good.synced {D : Dsk} (h : D.Good) : D.synced.Good := { h with ll := h.wl, nd := by simp [Dsk.synced], lt := by simp [Dsk.synced] }
theorem Dsk.Good.write {D : Dsk} (h : D.Good) (i : Int) (s : ByteArray) : (D.write i s).1.Good := by
  unfold Dsk.write
  split
  · exact h
  · split
    · exact h
    · split
      · exact h.begin.put _ (by omega) _
      · exact h.begin
theorem Dsk.Good.sync {D : Dsk} (h : D.Good) : D.sync.1.Good := by
  unfold Dsk.sync
  split
  · exact h.begin.synced
  · exact h.begin
theorem Dsk.Good.crash {D : Dsk} (h : D.Good) (keep : Nat) : (D.crash keep).Good := by
  unfold Dsk.crash
  split
  · exact h
  · exact h.lose keep
theorem Dsk.Good.forget {D : Dsk} (h : D.Good) : D.forget.Good := { h with cl := by simp [Dsk.forget], fk := by simp [Dsk.forget], kp := by simp [Dsk.forget], c0 := by simp [Dsk.forget], f0 := by simp [Dsk.forget] }
theorem Dsk.Good.power {D : Dsk} (h : D.Good) : D.power.Good := Dsk.Good.forget { h with }
theorem Dsk.Good.cut {D : Dsk} (h : D.Good) (n : Int) (keep : Nat) (hn : n < 9223372036854775808) (hk : keep < 18446744073709551616) : (D.cut n keep).Good := { h with cl := by simp only [Dsk.cut]; omega, kp := hk, c0 := by simp [Dsk.cut] }
theorem Dsk.Good.fail {D : Dsk} (h : D.Good) (n : Int) (hn : n < 9223372036854775808) : (D.fail n).Good := { h with fk := by simp only [Dsk.fail]; omega, f0 := by simp [Dsk.fail] }
theorem Dsk.good_new : Dsk.new.Good where
  wl := List.length_replicate
  ll := List.length_replicate
  nd := List.nodup_nil
  lt := fun x hx => absurd hx List.not_mem_nil
  cl := by show (0 : Nat) < _; omega
  fk := by show (0 : Nat) < _; omega
  kp := by show (0 : Nat) < _; omega
  c0 := fun _ => rfl
  f0 := fun _ => rfl
theorem Dsk.begin_ops (D : Dsk) : D.begin.1.ops ≤ D.ops + 1 := by
  unfold Dsk.begin
  (repeat' split) <;> simp [Dsk.lose, Dsk.forget]
theorem Dsk.write_ops (D : Dsk) (i : Int) (s : ByteArray) : (D.write i s).1.ops ≤ D.ops + 1 := by
  have := D.begin_ops
  unfold Dsk.write
  (repeat' split) <;> simp [Dsk.put] <;> omega
theorem Dsk.sync_ops (D : Dsk) : D.sync.1.ops ≤ D.ops + 1 := by
  have := D.begin_ops
  unfold Dsk.sync
  (repeat' split) <;> simp [Dsk.synced] <;> omega
end Go.Proofs.Ythcefjkpiaecjaa
